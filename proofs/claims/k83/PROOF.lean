import PyProof.Rows.All
import Wide.All
import OpenK.AllK
import Wide.FinOn
import Lean
import PyProof.EqAt
import PyProof.EqKinds
import PyProof.TupleCall
import KE.KIsAll
import PyProof.DictItems
import KE.KPairComp
import KE.KSortTup
import KE.IntBitsLaws
import KE.KRevIter
import PySem.Challenge.RW_manycounts_k83_turned_over
set_option Elab.async false
set_option linter.all false
set_option maxRecDepth 100000
set_option maxHeartbeats 4000000
namespace L2
open PySem PySem.Spec PyProof.Rows
abbrev Key := Sum Int Str
def keyIs : Key -> Value -> Bool
  | .inl k, v => Value.isInt k v
  | .inr x, v => Value.isStrOf x v
def keyH (w : World) : Key -> Int
  | .inl k => hashInt k
  | .inr x => hashStr w x
theorem keyIs_shape : ∀ {k : Key} {v : Value}, keyIs k v = true -> (∃ i t, k = Sum.inl i /\ v = Value.int i t) \/ (∃ x t, k = Sum.inr x /\ v = Value.str x t)
  | .inl i, v, h => by
    obtain ⟨t, e⟩ := Value.isInt_shape (k := i) (v := v) h
    exact .inl ⟨i, t, rfl, e⟩
  | .inr x, v, h => by
    obtain ⟨t, e⟩ := Value.isStrOf_shape (x := x) (v := v) h
    exact .inr ⟨x, t, rfl, e⟩
theorem key_ll (a b : Int) : decide ((Sum.inl a : Key) = Sum.inl b) = (a == b) := by
  by_cases e : a = b
  · subst e; simp
  · have h : ¬ (Sum.inl a : Key) = Sum.inl b := fun q => e (Sum.inl.inj q)
    rw [decide_eq_false h]
    exact (beq_eq_false_iff_ne.mpr e).symm
theorem key_rr (a b : Str) : decide ((Sum.inr a : Key) = Sum.inr b) = decide (a = b) := by
  by_cases e : a = b
  · subst e; simp
  · have h : ¬ (Sum.inr a : Key) = Sum.inr b := fun q => e (Sum.inr.inj q)
    rw [decide_eq_false h, decide_eq_false e]
theorem key_lr (a : Int) (b : Str) : decide ((Sum.inl a : Key) = Sum.inr b) = false := decide_eq_false (fun q => nomatch q)
theorem key_rl (a : Str) (b : Int) : decide ((Sum.inr a : Key) = Sum.inl b) = false := decide_eq_false (fun q => nomatch q)
def mixKind (prog : Program) (w : World) : PySem.KeyKind prog w Key where
  is := keyIs
  hash := keyH w
  inj := fun v a b ha hb => by
    rcases keyIs_shape ha with ⟨i, t, rfl, rfl⟩ | ⟨x, t, rfl, rfl⟩
    · rcases keyIs_shape hb with ⟨j, u, rfl, e⟩ | ⟨y, u, rfl, e⟩
      · injection e with e1 _; rw [e1]
      · exact nomatch e
    · rcases keyIs_shape hb with ⟨j, u, rfl, e⟩ | ⟨y, u, rfl, e⟩
      · exact nomatch e
      · injection e with e1 _; rw [e1]
  byValue := fun k v h => by
    rcases keyIs_shape h with ⟨i, t, rfl, rfl⟩ | ⟨x, t, rfl, rfl⟩ <;> rfl
  pyHash := fun hv h => by
    rcases keyIs_shape hv with ⟨i, t, rfl, rfl⟩ | ⟨x, t, rfl, rfl⟩
    · exact wpAny_pyHash_int h
    · exact wpAny_pyHash_str h
  eqBool := fun hu hv h => by
    rcases keyIs_shape hu with ⟨i, t, rfl, rfl⟩ | ⟨x, t, rfl, rfl⟩
    · rcases keyIs_shape hv with ⟨j, u, rfl, rfl⟩ | ⟨y, u, rfl, rfl⟩
      · rw [key_ll] at h; exact wpAny_eqBool_int h
      · rw [key_lr] at h; exact SeqAt.EqAt.int_str i t y u _ _ _ _ h
    · rcases keyIs_shape hv with ⟨j, u, rfl, rfl⟩ | ⟨y, u, rfl, rfl⟩
      · rw [key_rl] at h; exact SeqAt.EqAt.str_int x t j u _ _ _ _ h
      · rw [key_rr] at h; exact wpAny_eqBool_str h
  «strs» := fun k x t v h => by
    rcases keyIs_shape h with ⟨i, u, rfl, e⟩ | ⟨y, u, rfl, e⟩
    · exact nomatch e
    · injection e with e1 _
      subst e1
      cases v <;> rfl
inductive V where
  | non | bl (b : Bool) | int (i : Int) | str (x : Str) | byt (b : Array UInt8) | flt (b : UInt64) | ref (a : Addr) | ty (n : String)
  deriving DecidableEq
def RelV : V -> Value -> Prop
  | .non, u => u = Value.none
  | .bl b, u => u = Value.bool b
  | .int i, u => ∃ t, u = Value.int i t
  | .str x, u => ∃ t, u = Value.str x t
  | .byt b, u => ∃ t, u = Value.bytes b t
  | .flt b, u => ∃ t, u = Value.float b t
  | .ref a, u => u = Value.ref a
  | .ty n, u => u = Value.type n
abbrev Vals : List V -> List Value -> Prop := Paired RelV
theorem Vals.length {xs : List V} {us : List Value} (r : Vals xs us) : xs.length = us.length := Paired.length r
theorem Vals.get : ∀ {xs : List V} {us : List Value} {i : Nat} {x : V}, Vals xs us -> xs[i]? = some x -> ∃ u, us[i]? = some u /\ RelV x u
  | _, _, _, _, .nil, e => by simp at e
  | _, _, 0, _, .cons r _, e => by simp at e; subst e; exact ⟨_, rfl, r⟩
  | _, _, i + 1, x, .cons _ t, e => by
    obtain ⟨u, h1, h2⟩ := Vals.get (i := i) (x := x) t (by simpa using e)
    exact ⟨u, by simpa using h1, h2⟩
theorem Vals.set {x : V} {u : Value} (r : RelV x u) : ∀ {xs : List V} {us : List Value} (i : Nat), Vals xs us -> Vals (xs.set i x) (us.set i u)
  | _, _, _, .nil => .nil
  | _, _, 0, .cons _ t => .cons r t
  | _, _, i + 1, .cons q t => .cons q (Vals.set r i t)
theorem Vals.append : ∀ {xs ys : List V} {us ws : List Value}, Vals xs us -> Vals ys ws -> Vals (xs ++ ys) (us ++ ws)
  | _, _, _, _, .nil, s => s
  | _, _, _, _, .cons r t, s => .cons r (Vals.append t s)
theorem Vals.take : ∀ {xs : List V} {us : List Value} (n : Nat), Vals xs us -> Vals (xs.take n) (us.take n)
  | _, _, 0, _ => .nil
  | _, _, _ + 1, .nil => .nil
  | _, _, n + 1, .cons r t => .cons r (Vals.take n t)
theorem Vals.drop : ∀ {xs : List V} {us : List Value} (n : Nat), Vals xs us -> Vals (xs.drop n) (us.drop n)
  | _, _, 0, r => r
  | _, _, _ + 1, .nil => .nil
  | _, _, n + 1, .cons _ t => Vals.drop n t
def RelO : Option V -> Option Value -> Prop
  | some v, some u => RelV v u
  | none, none => True
  | _, _ => False
def KV {κ : Type} : List (κ × V) -> List (κ × Value) -> Prop := Paired fun (p : κ × V) (q : κ × Value) => p.1 = q.1 /\ RelV p.2 q.2
def kV : Key -> V
  | .inl i => .int i
  | .inr x => .str x
inductive HO where
    | lst (xs : List V)
    | tup (xs : List V)
    | dK (kvs : List (Key × V)) | dT (kvs : List (List Key × V))
    | set (S : Int -> Bool) (n : Nat)
    | ins (C dx : Addr) (fs : List (Str × V))
    | own (x : Addr)
    | xd (fs : List (Str × V))
    | met (f x : Addr)
    | rng (lo hi : Int)
    | frz (o : Obj) (u : HO)
    | tbl (ps : Array Value)
    | ext (φ : Heap -> Prop)
abbrev Hp := Addr -> Option HO
def upd (H : Hp) (a : Addr) (o : HO) : Hp := fun b => if b = a then some o else H b
theorem upd_same {H : Hp} {a : Addr} {o : HO} : upd H a o a = some o := by unfold upd; rw [if_pos rfl]
theorem upd_ne {H : Hp} {a b : Addr} {o : HO} (h : b ≠ a) : upd H a o b = H b := by unfold upd; rw [if_neg h]
theorem ne_of {H : Hp} {a b : Addr} {o u : HO} (h : H a = some o) (h' : H b = some u) (d : o ≠ u) : a ≠ b := by
  intro e; subst e; rw [h] at h'; exact d (Option.some.inj h')
theorem ne_of_none {H : Hp} {a b : Addr} {o : HO} (h : H a = some o) (h' : H b = none) : a ≠ b := by
  intro e; subst e; rw [h] at h'; cases h'
section
variable (P : Program) (w : World)
def ObjOk (H : Hp) (h : Heap) (a : Addr) : HO -> Prop
  | .lst xs => xs.length <= sizeLine /\ ∃ (its : List Value) (n : Nat), Vals xs its /\ h.get? a = some { cls := .type "list", data := .seq its.toArray n }
  | .tup xs => xs.length <= sizeLine /\ ∃ its : List Value, Vals xs its /\ IsTup h a its.toArray
  | .dK kvs => kvs.length <= sizeLine /\ (a == sysModules) = false /\ ∃ vs, KV kvs vs /\ h.DictOf (mixKind P w) a vs
  | .dT kvs => kvs.length <= sizeLine /\ (a == sysModules) = false /\ ∃ xs : List (List Key × Addr × Value),
      Paired (fun (p : List Key × V) (q : List Key × Addr × Value) => p.1 = q.1 /\ H q.2.1 = some (.tup (p.1.map kV)) /\ RelV p.2 q.2.2) kvs xs /\
      ∃ o es ep, h.get? a = some o /\ o.ExactDict /\ o.data = .dict es ep /\ es.toList = xs.map (entryOfKey (tupleKind (mixKind P w))) /\ (xs.map (·.1)).Nodup
  | .set S n => h.SetOf (intKind P w) a S n
  | .ins C dx fs => H dx = some (.own a) /\ fs.length <= 1000 /\ dx ≠ a /\ h.get? a = some (PySem.W.instObj C dx) /\
      ∃ mA, h.Ns1 dx mA /\ (∀ f, RelO (fs.lookup f) (mA f)) /\ PySem.Within mA (fs.map (·.1))
  | .own _ => ∃ o, h.get? a = some o
  | .xd fs => ∃ mA, h.Ns1 a mA /\ ∀ f, RelO (fs.lookup f) (mA f)
  | .rng lo hi => ∃ t u v, h.get? a = some { cls := .type "range", data := .fields #[.int lo t, .int hi u, .int 1 v] }
  | .frz o u => h.get? a = some o /\ ObjOk H h a u
  | .tbl ps => h.get? a = some { cls := .none, data := .fields ps }
  | .met f x => h.get? a = some (PySem.W.methodObj (.ref f) (.ref x))
  | .ext φ => φ h /\ (∃ o, h.get? a = some o) /\ ∀ h1 h2 : Heap, φ h1 -> (∀ o, h1.get? a = some o -> h2.get? a = some o) -> φ h2
def HOk (H : Hp) (h : Heap) : Prop := ∀ a o, H a = some o -> ObjOk P w H h a o
end
section
variable {P : Program} {w : World} {H H' : Hp} {h h' : Heap} {a : Addr} {o : HO}
theorem ObjOk.lt (x : ObjOk P w H h a o) : a < h.objs.size := by
  cases o with
  | lst xs => obtain ⟨_, _, _, _, e⟩ := x; exact Heap.lt_size e
  | tup xs => obtain ⟨_, _, _, p⟩ := x; exact p.lt
  | dK kvs => obtain ⟨_, _, _, _, o, _, _, e, _⟩ := x; exact Heap.lt_size e
  | dT kvs => obtain ⟨_, _, _, _, o, _, _, e, _⟩ := x; exact Heap.lt_size e
  | set S n => obtain ⟨o, _, _, _, e, _⟩ := x; exact Heap.lt_size e
  | ins C dx fs => obtain ⟨_, _, _, e, _⟩ := x; exact Heap.lt_size e
  | own y => obtain ⟨_, e⟩ := x; exact Heap.lt_size e
  | xd fs => obtain ⟨_, ⟨_, _, _, e, _⟩, _⟩ := x; exact Heap.lt_size e
  | rng lo hi => obtain ⟨_, _, _, e⟩ := x; exact Heap.lt_size e
  | frz ob u => obtain ⟨e, _⟩ := x; exact Heap.lt_size e
  | tbl ps => exact Heap.lt_size (show h.get? a = some _ from x)
  | met f y => exact Heap.lt_size (show h.get? a = some _ from x)
  | ext φ => obtain ⟨_, ⟨_, e⟩, _⟩ := x; exact Heap.lt_size e
theorem Paired.mapP {α β : Type} {F G : α -> β -> Prop} : ∀ {l₁ : List α} {l₂ : List β}, Paired F l₁ l₂ -> (∀ a b, F a b -> G a b) -> Paired G l₁ l₂
  | _, _, .nil, _ => .nil
  | _, _, .cons r t, f => .cons (f _ _ r) (Paired.mapP t f)
theorem ObjOk.stay (x : ObjOk P w H h a o) (k : ∀ b u, (b = a \/ H b = some (.own a)) -> h.get? b = some u -> h'.get? b = some u)
    (ho : ∀ b, H b = some (.own a) -> H' b = some (.own a)) (ht : ∀ b xs, H b = some (.tup xs) -> H' b = some (.tup xs)) : ObjOk P w H' h' a o := by
  induction o with
  | lst xs => obtain ⟨z, its, n, r, e⟩ := x; exact ⟨z, its, n, r, k _ _ (.inl rfl) e⟩
  | tup xs => obtain ⟨z, its, r, ob, e, c⟩ := x; exact ⟨z, its, r, ob, k _ _ (.inl rfl) e, c⟩
  | dK kvs => obtain ⟨z, y, vs, r, ob, es, ep, e, c⟩ := x; exact ⟨z, y, vs, r, ob, es, ep, k _ _ (.inl rfl) e, c⟩
  | dT kvs =>
    obtain ⟨z, y, xs, r, ob, es, ep, e, c⟩ := x
    exact ⟨z, y, xs, Paired.mapP r fun p q z => ⟨z.1, ht _ _ z.2.1, z.2.2⟩, ob, es, ep, k _ _ (.inl rfl) e, c⟩
  | set S n => obtain ⟨ob, es, ep, t, e, c⟩ := x; exact ⟨ob, es, ep, t, k _ _ (.inl rfl) e, c⟩
  | ins C dx fs =>
    obtain ⟨d, z, ne, e, mA, ⟨od, es, ep, e2, c⟩, r⟩ := x
    exact ⟨ho _ d, z, ne, k _ _ (.inl rfl) e, mA, ⟨od, es, ep, k _ _ (.inr d) e2, c⟩, r⟩
  | own y => obtain ⟨ob, e⟩ := x; exact ⟨ob, k _ _ (.inl rfl) e⟩
  | xd fs => obtain ⟨mA, ⟨od, es, ep, e, c⟩, r⟩ := x; exact ⟨mA, ⟨od, es, ep, k _ _ (.inl rfl) e, c⟩, r⟩
  | rng lo hi => obtain ⟨t, u, v, e⟩ := x; exact ⟨t, u, v, k _ _ (.inl rfl) e⟩
  | frz ob u ih => obtain ⟨e, q⟩ := x; exact ⟨k _ _ (.inl rfl) e, ih q⟩
  | tbl ps =>
    have e : h.get? a = some { cls := .none, data := .fields ps } := x
    show h'.get? a = some { cls := .none, data := .fields ps }
    exact k a _ (.inl rfl) e
  | met f y =>
    have e : h.get? a = some (PySem.W.methodObj (.ref f) (.ref y)) := x
    show h'.get? a = some (PySem.W.methodObj (.ref f) (.ref y))
    exact k a _ (.inl rfl) e
  | ext φ => obtain ⟨p, ⟨o, e⟩, st⟩ := x; exact ⟨st _ _ p fun o q => k _ _ (.inl rfl) q, ⟨o, k _ _ (.inl rfl) e⟩, st⟩
theorem HOk.lt (x : HOk P w H h) (e : H a = some o) : a < h.objs.size := (x a o e).lt
theorem HOk.fresh (x : HOk P w H h) (e : h.objs.size <= a) : H a = none := by
  cases q : H a with
  | none => rfl
  | some u => exact absurd (Nat.lt_of_lt_of_le (x.lt q) e) (Nat.lt_irrefl _)
theorem HOk.kept (x : HOk P w H h) (k : ∀ b u, h.get? b = some u -> h'.get? b = some u) : HOk P w H h' := fun a o e =>
  (x a o e).stay (fun b u _ q => k b u q) (fun _ q => q) fun _ _ q => q
theorem HOk.laid (x : HOk P w H h) (k : ∀ b u, h.get? b = some u -> h'.get? b = some u) (hp : h.objs.size <= a) (new : ObjOk P w (upd H a o) h' a o) : HOk P w (upd H a o) h' := fun b u e => by
  have hn := x.fresh hp
  by_cases hb : b = a
  · subst hb; rw [upd_same] at e; cases e; exact new
  · rw [upd_ne hb] at e
    exact (x b u e).stay (fun c v _ q => k c v q) (fun c q => by rw [upd_ne (ne_of_none q hn)]; exact q) fun c xs q => by rw [upd_ne (ne_of_none q hn)]; exact q
end
def Rd (H : Hp) (a : Addr) (u : HO) : Prop := H a = some u \/ ∃ o, H a = some (.frz o u)
theorem Rd.ok {P : Program} {w : World} {H : Hp} {h : Heap} {a : Addr} {u : HO} (r : Rd H a u) (x : HOk P w H h) : ObjOk P w H h a u := by
  rcases r with r | ⟨o, r⟩
  · exact x a u r
  · obtain ⟨_, q⟩ := x a _ r
    exact q
def Mut : Option HO -> Prop
  | some (.lst _) => True
  | some (.dK _) => True
  | some (.dT _) => True
  | some (.set _ _) => True
  | some (.ins _ _ _) => True
  | some (.ext _) => True
  | _ => False
section
variable {P : Program} {w : World} {H : Hp} {h h' : Heap} {x e : Addr} {o' : HO}
theorem HOk.write (ok : HOk P w H h) (mu : Mut (H x)) (he : e = x \/ H e = some (.own x)) (k : ∀ b u, b ≠ e -> h.get? b = some u -> h'.get? b = some u) (heo : ∃ u, h'.get? e = some u)
    (new : ObjOk P w (upd H x o') h' x o') : HOk P w (upd H x o') h' := fun b u q => by
  have nown : ∀ c y, H c = some (.own y) -> c ≠ x := fun c y r z => by subst z; rw [r] at mu; exact mu
  have ntup : ∀ c xs, H c = some (.tup xs) -> c ≠ x := fun c xs r z => by subst z; rw [r] at mu; exact mu
  by_cases hb : b = x
  · subst hb; rw [upd_same] at q; cases q; exact new
  · rw [upd_ne hb] at q
    by_cases hbe : b = e
    · have q' : H b = some (.own x) := by
        rcases he with z | z
        · exact absurd (hbe.trans z) hb
        · rw [hbe]; exact z
      rw [q] at q'; cases q'
      obtain ⟨v, hv⟩ := heo
      exact ⟨v, by rw [hbe]; exact hv⟩
    · refine (ok b u q).stay (fun c v hc r => k c v ?_ r) (fun c r => by rw [upd_ne (nown c b r)]; exact r) fun c xs r => by rw [upd_ne (ntup c xs r)]; exact r
      rcases hc with rfl | hc
      · exact hbe
      · rintro rfl
        rcases he with z | z
        · exact nown c b hc z
        · rw [hc] at z; cases z; exact hb rfl
end
structure Un (fs ex : List Addr) (H H' : Hp) (h h' : Heap) : Prop where
  keep : ∀ b o, h.get? b = some o -> H b = none -> b ∉ fs -> b ∉ ex -> h'.get? b = some o
  slot : ∀ b o, h.get? b = some o -> H b = none -> b ∈ fs -> b ∉ ex -> ∃ sl, h'.get? b = some { o with slots := sl }
  free : ∀ b o, h.get? b = some o -> H b = none -> b ∉ ex -> H' b = none
  there : ∀ b o, h.get? b = some o -> b ∉ ex -> ∃ o', h'.get? b = some o'
  tups : ∀ b xs, H b = some (.tup xs) -> H' b = some (.tup xs)
  frzs : ∀ b o u, H b = some (.frz o u) -> H' b = some (.frz o u)
  tbls : ∀ b ps, H b = some (.tbl ps) -> ∃ more, H' b = some (.tbl (ps ++ more))
section
variable {fs fs' ex ex' : List Addr} {H H1 H2 : Hp} {h h1 h2 h' : Heap} {a x e : Addr} {o : HO}
theorem Un.any (u : Un fs ex H H1 h h1) {b : Addr} {ob : Obj} (q : h.get? b = some ob) (n : H b = none) (hx : b ∉ ex) : ∃ sl, h1.get? b = some { ob with slots := sl } := by
  by_cases hb : b ∈ fs
  · exact u.slot b ob q n hb hx
  · exact ⟨ob.slots, u.keep b ob q n hb hx⟩
theorem Un.kept (k : ∀ b u, h.get? b = some u -> h'.get? b = some u) : Un fs ex H H h h' :=
  ⟨fun b ob q _ _ _ => k b ob q, fun b ob q _ _ _ => ⟨ob.slots, k b ob q⟩, fun _ _ _ n _ => n, fun b ob q _ => ⟨ob, k b ob q⟩, fun _ _ q => q, fun _ _ _ q => q, fun _ ps q => ⟨#[], by rw [q]; simp⟩⟩
theorem Un.refl : Un fs ex H H h h := Un.kept fun _ _ q => q
theorem Un.laid (k : ∀ b u, h.get? b = some u -> h'.get? b = some u) (hp : h.objs.size <= a) (hn : H a = none) : Un fs ex H (upd H a o) h h' where
  keep := fun b u q _ _ _ => k b u q
  slot := fun b u q _ _ _ => ⟨u.slots, k b u q⟩
  free := fun b u q n _ => by rw [upd_ne (Nat.ne_of_lt (Nat.lt_of_lt_of_le (Heap.lt_size q) hp))]; exact n
  there := fun b u q _ => ⟨u, k b u q⟩
  tups := fun b xs q => by rw [upd_ne (ne_of_none q hn)]; exact q
  frzs := fun b u xs q => by rw [upd_ne (ne_of_none q hn)]; exact q
  tbls := fun b ps q => ⟨#[], by rw [upd_ne (ne_of_none q hn), q]; simp⟩
theorem Un.write (mu : Mut (H x)) (he : e = x \/ H e = some (.own x)) (k : ∀ b u, b ≠ e -> h.get? b = some u -> h'.get? b = some u) (heo : ∃ u, h'.get? e = some u) : Un fs ex H (upd H x o) h h' := by
  have hx : ∀ b, H b = none -> b ≠ x := fun b n z => by subst z; rw [n] at mu; exact mu
  have hb : ∀ b, H b = none -> b ≠ e := fun b n z => by
    subst z
    rcases he with r | r
    · exact hx b n r
    · rw [n] at r; cases r
  have hm : ∀ b u, H b = some u -> ¬ Mut (some u) -> b ≠ x := fun b u q nm z => by subst z; rw [q] at mu; exact nm mu
  refine ⟨fun b u q n _ _ => k b u (hb b n) q, fun b u q n _ _ => ⟨u.slots, k b u (hb b n) q⟩, fun b u q n _ => by rw [upd_ne (hx b n)]; exact n, fun b u q _ => ?_,
    fun b xs q => by rw [upd_ne (hm b _ q fun z => z)]; exact q, fun b u xs q => by rw [upd_ne (hm b _ q fun z => z)]; exact q, fun b ps q => ⟨#[], by rw [upd_ne (hm b _ q fun z => z), q]; simp⟩⟩
  by_cases hbe : b = e
  · subst hbe; exact heo
  · exact ⟨u, k b u hbe q⟩
end
def trk (h : Heap) (H : Hp) : List Addr := (List.range h.objs.size).filter fun a => (H a).isSome
def hidT (h : Heap) (H : Hp) : Heap := PySem.W.hideAll h (trk h H)
theorem hidT_size (h : Heap) (H : Hp) : (hidT h H).objs.size = h.objs.size := PySem.W.hideAll_size _ _
theorem hidT_get {h : Heap} {H : Hp} {b : Addr} {o : Obj} (e : h.get? b = some o) (n : H b = none) : (hidT h H).get? b = some o :=
  PySem.W.hideAll_get _ e fun hm => by
    have q : (H b).isSome = true := (List.mem_filter.mp hm).2
    rw [n] at q; simp at q
theorem of_hidT {h : Heap} {H : Hp} {b : Addr} {o : Obj} (e : (hidT h H).get? b = some o) : h.get? b = some o /\ H b = none := by
  have e' : h.get? b = some o := PySem.W.of_hideAll (trk h H) e
  refine ⟨e', ?_⟩
  cases q : H b with
  | none => rfl
  | some x =>
    have hm : b ∈ trk h H := List.mem_filter.mpr ⟨List.mem_range.mpr (Heap.lt_size e'), by simp [q]⟩
    have z : (hidT h H).get? b = none := PySem.W.hideAll_none (trk h H) hm
    rw [z] at e; cases e
def allNews (g h : Heap) (L : Addr) : List (Addr × Obj) := (List.range h.objs.size).filterMap fun a => if a = L \/ (g.get? a).isSome = true then none else (h.get? a).map fun o => (a, o)
def rest (g h : Heap) (L d : Addr) : List (Addr × Obj) := (allNews g h L).filter fun p => decide (p.1 ≠ d)
structure Mod (K : PySem.W.Frag) (mg : Str -> Option Value) (base : Heap) : Prop where
  kin : K.In base
  glob : base.Ns mainGlobals mg
  blt : ∃ mb, base.Ns builtinsNs mb /\ ∀ x : Str, x ≠ "__name__" -> mb x = bootBuiltins x
  nolimit : base.NoLimit
structure Cx where
  prog : Program
  w : World
  K : PySem.W.Frag
  mg : Str -> Option Value
  base : Heap
  A : Around
  N : List Str
  s₀ : Shared
  H₀ : Hp
  env : Env
  outer : List Env
  stack : List Env
  ex : List Addr
  fn : Str -> Bool
  calm : Bool
  pn : List (Addr × Obj)
  xe : Value -> Shared -> Prop
def frs (l : List Env) : List Addr := l.filterMap (·.frame)
abbrev Cx.fs (X : Cx) : List Addr := frs X.outer
def Vis (sc : Scope) (x : Str) : Prop := sc.names.lookup x = some .local \/ sc.names.lookup x = some .cell \/ sc.names.lookup x = some .free
def Loc (sc : Scope) (x : Str) : Prop := sc.names.lookup x = some .local \/ sc.names.lookup x = some .cell
def Look (env : Env) (h : Heap) (m : Str -> Option Value) (x : Str) (u : Value) : Prop :=
  (env.kindOf x = some .local /\ m x = some u) \/ ((env.kindOf x = some .cell \/ env.kindOf x = some .free) /\ ∃ c, env.cells.lookup x = some c /\ h.IsCell c (some u))
structure Cx.Ok (X : Cx) : Prop where
  mod : Mod X.K X.mg X.base
  kind : X.env.scope.kind = .function
  glob : X.env.globals = mainGlobals
  blt : X.env.builtins = builtinsNs
  above : X.s₀.heap.objs.size <= X.env.locals
  inj : ∀ x y c, X.env.cells.lookup x = some c -> X.env.cells.lookup y = some c -> x = y
  has : ∀ x, (X.env.kindOf x = some .cell \/ X.env.kindOf x = some .free) -> ∃ c, X.env.cells.lookup x = some c
  cab : ∀ x c, X.fn x = true -> X.env.cells.lookup x = some c -> X.s₀.heap.objs.size <= c
  hd : X.calm = true -> X.A.handled = none
  frames : X.A.frames = some X.stack
  stk : X.stack = X.outer \/ (X.stack = X.env :: X.outer /\ X.env.frame = some X.env.locals)
  exf : ∀ b ∈ X.ex, b ≠ X.env.locals /\ ∀ x c, X.env.cells.lookup x = some c -> c ≠ b
  bs : ∀ b o, X.base.get? b = some o -> X.s₀.heap.get? b = some o /\ X.H₀ b = none
  bsz : X.base.objs.size <= X.s₀.heap.objs.size
  noex : ∀ b o, X.base.get? b = some o -> b ∉ X.ex
  exfs : ∀ b ∈ X.ex, b ∉ X.fs
  funs : X.s₀.heap.FunFrames X.base X.outer
  frf : ∀ b ∈ X.fs, X.H₀ b = none
structure Inv (X : Cx) (pins : List (Addr × Obj)) (σ : List (Option V)) (H : Hp) (s : Shared) : Prop where
  ok : X.Ok
  os : s.os = X.s₀.os
  bare : AllBare s.gens
  base : Un X.fs X.ex X.H₀ H X.s₀.heap s.heap
  loc : ∃ m, s.heap.Ns X.env.locals m /\ ∀ (i : Nat) (x : Str) (v : V), X.N[i]? = some x -> σ[i]? = some (some v) -> Vis X.env.scope x -> ∃ u, RelV v u /\ Look X.env s.heap m x u
  cell : ∀ x c, X.env.cells.lookup x = some c -> ∃ v, s.heap.IsCell c v
  free : H X.env.locals = none
  freeC : ∀ x c, X.env.cells.lookup x = some c -> H c = none
  pin : ∀ p ∈ X.pn ++ pins, s.heap.get? p.1 = some p.2 /\ H p.1 = none /\ p.1 ≠ X.env.locals /\ p.1 ∉ X.fs /\ ∀ v, p.2.data ≠ .cell v
  hok : HOk X.prog X.w H s.heap
  len : σ.length = X.N.length
section
variable {X : Cx} {pins : List (Addr × Obj)} {σ : List (Option V)} {H H' : Hp} {s : Shared} {h' : Heap}
theorem Cx.Ok.nofr (ok : X.Ok) {b : Addr} {o : Obj} (e : X.base.get? b = some o) : b ∉ X.fs := fun hb => by
  have := (ok.funs.mem hb).1
  rw [e] at this; cases this
theorem Inv.bs (I : Inv X pins σ H s) : ∀ b o, X.base.get? b = some o -> s.heap.get? b = some o /\ H b = none := fun b o e =>
  ⟨I.base.keep b o (I.ok.bs b o e).1 (I.ok.bs b o e).2 (I.ok.nofr e) (I.ok.noex b o e), I.base.free b o (I.ok.bs b o e).1 (I.ok.bs b o e).2 (I.ok.noex b o e)⟩
theorem Inv.bk (I : Inv X pins σ H s) : ∀ b o, X.base.get? b = some o -> s.heap.get? b = some o := fun b o e => (I.bs b o e).1
theorem Inv.mod (I : Inv X pins σ H s) : Mod X.K X.mg X.base := I.ok.mod
theorem Inv.kIn (I : Inv X pins σ H s) : X.K.In s.heap := I.ok.mod.kin.keeps I.bk
theorem Inv.lt (I : Inv X pins σ H s) : X.env.locals < s.heap.objs.size := let ⟨_, hn, _⟩ := I.loc; hn.lt
theorem Inv.sz (I : Inv X pins σ H s) : X.s₀.heap.objs.size <= s.heap.objs.size := Nat.le_trans I.ok.above (Nat.le_of_lt I.lt)
theorem Inv.nofs (I : Inv X pins σ H s) {a : Addr} (h : s.heap.objs.size <= a) : a ∉ X.fs := fun hb => by
  obtain ⟨_, o, ho, _⟩ := I.ok.funs.mem hb
  exact absurd (Nat.lt_of_lt_of_le (Heap.lt_size ho) (Nat.le_trans I.sz h)) (Nat.lt_irrefl _)
theorem Inv.cne (I : Inv X pins σ H s) : ∀ x c, X.env.cells.lookup x = some c -> c ≠ X.env.locals := fun x c e z => by
  obtain ⟨v, o, ho, hd⟩ := I.cell x c e
  obtain ⟨m, ⟨o', es, ep, ho', hd', _⟩, _⟩ := I.loc
  rw [z, ho'] at ho; cases ho; rw [hd'] at hd; cases hd
theorem Inv.funs (I : Inv X pins σ H s) : s.heap.FunFrames X.base X.outer := by
  have all : ∀ (l : List Env), (∀ b ∈ frs l, b ∈ X.fs) -> X.s₀.heap.FunFrames X.base l -> s.heap.FunFrames X.base l := by
    intro l
    induction l with
    | nil => intro _ _; trivial
    | cons env r ih =>
      intro hs hl
      obtain ⟨hk, ⟨L, o, hf, hn, ho, hd⟩, hr⟩ := hl
      have hL : L ∈ X.fs := hs L (by unfold frs; rw [List.filterMap_cons, hf]; exact List.mem_cons_self)
      obtain ⟨sl, e⟩ := I.base.slot L o ho (I.ok.frf L hL) hL fun z => I.ok.exfs L z hL
      exact ⟨hk, ⟨L, _, hf, hn, e, hd⟩, ih (fun b hb => hs b (by unfold frs; rw [List.filterMap_cons, hf]; exact List.mem_cons_of_mem _ hb)) hr⟩
  exact all X.outer (fun _ hb => hb) I.ok.funs
theorem Inv.stack (I : Inv X pins σ H s) : s.heap.FunFrames X.base X.stack := by
  rcases I.ok.stk with e | ⟨e, hf⟩
  · rw [e]; exact I.funs
  · rw [e]
    obtain ⟨m, hn, _⟩ := I.loc
    refine .cons (by rw [I.ok.kind]; decide) hf hn ?_ I.funs
    exact Heap.get?_none_of_le (Nat.le_trans I.ok.bsz I.ok.above)
theorem Inv.stkSub (I : Inv X pins σ H s) : ∀ b ∈ frs X.stack, b ∈ X.env.locals :: X.fs := fun b hb => by
  rcases I.ok.stk with e | ⟨e, hf⟩
  · rw [e] at hb; exact List.mem_cons_of_mem _ hb
  · rw [e] at hb
    unfold frs at hb
    rw [List.filterMap_cons, hf] at hb
    exact hb
theorem Inv.stkFree (I : Inv X pins σ H s) : ∀ b ∈ frs X.stack, H b = none := fun b hb => by
  rcases List.mem_cons.mp (I.stkSub b hb) with e | hb
  · rw [e]; exact I.free
  · obtain ⟨_, o, ho, _⟩ := I.ok.funs.mem hb
    exact I.base.free b o ho (I.ok.frf b hb) fun z => I.ok.exfs b z hb
theorem Inv.step {g' : Array GenState} {t' : Nat} {d' : Drawn} {ch : List Addr} (I : Inv X pins σ H s)
    (hch : ∀ b ∈ ch, (b ∈ X.ex \/ X.s₀.heap.objs.size <= b) /\ b ≠ X.env.locals /\ (∀ x c, X.env.cells.lookup x = some c -> c ≠ b) /\ ∀ p ∈ X.pn ++ pins, p.1 ≠ b)
    (keep : ∀ b o, b ≠ X.env.locals -> b ∉ X.fs -> b ∉ ch -> s.heap.get? b = some o -> H b = none -> h'.get? b = some o)
    (slot : ∀ b o, b ≠ X.env.locals -> b ∈ X.fs -> b ∉ ch -> s.heap.get? b = some o -> H b = none -> ∃ sl, h'.get? b = some { o with slots := sl }) (free : ∀ b o, b ∉ ch -> s.heap.get? b = some o -> H b = none -> H' b = none)
    (there : ∀ b o, b ∉ ch -> s.heap.get? b = some o -> ∃ o', h'.get? b = some o')
    (tups : ∀ b xs, H b = some (.tup xs) -> H' b = some (.tup xs)) (frzs : ∀ b o u, H b = some (.frz o u) -> H' b = some (.frz o u)) (tbls : ∀ b ps, H b = some (.tbl ps) -> ∃ more, H' b = some (.tbl (ps ++ more)))
    (ns : ∀ m, s.heap.Ns X.env.locals m -> h'.Ns X.env.locals m) (hok : HOk X.prog X.w H' h') (hg : AllBare g') :
    Inv X pins σ H' { s with heap := h', gens := g', drawn := d', toks := t' } := by
  have neL : ∀ b o, X.s₀.heap.get? b = some o -> b ≠ X.env.locals := fun b o e => Nat.ne_of_lt (Nat.lt_of_lt_of_le (Heap.lt_size e) I.ok.above)
  have neC : ∀ b o, X.s₀.heap.get? b = some o -> b ∉ X.ex -> b ∉ ch := fun b o e hx hb => by
    rcases (hch b hb).1 with z | z
    · exact hx z
    · exact absurd (Nat.lt_of_lt_of_le (Heap.lt_size e) z) (Nat.lt_irrefl _)
  have cellK : ∀ x c, X.env.cells.lookup x = some c -> ∀ v, s.heap.IsCell c v -> h'.IsCell c v := fun x c e v ⟨o, ho, hd⟩ => by
    have nch : c ∉ ch := fun z => (hch c z).2.2.1 x c e rfl
    by_cases hc : c ∈ X.fs
    · obtain ⟨sl, q⟩ := slot c o (I.cne x c e) hc nch ho (I.freeC x c e)
      exact ⟨_, q, hd⟩
    · exact ⟨o, keep c o (I.cne x c e) hc nch ho (I.freeC x c e), hd⟩
  refine ⟨I.ok, I.os, hg, ⟨fun b o e n hb hx => ?_, fun b o e n hb hx => ?_, fun b o e n hx => ?_, fun b o e hx => ?_, fun b xs e => tups b xs (I.base.tups b xs e), fun b o xs e => frzs b o xs (I.base.frzs b o xs e), fun b ps e => ?_⟩, ?_, fun x c e => ?_, ?_, fun x c e => ?_, fun p hp => ?_, hok, I.len⟩
  · exact keep b o (neL b o e) hb (neC b o e hx) (I.base.keep b o e n hb hx) (I.base.free b o e n hx)
  · obtain ⟨sl, e1⟩ := I.base.slot b o e n hb hx
    obtain ⟨sl', e2⟩ := slot b _ (neL b o e) hb (neC b o e hx) e1 (I.base.free b o e n hx)
    exact ⟨sl', e2⟩
  · obtain ⟨o', e1⟩ := I.base.there b o e hx
    exact free b o' (neC b o e hx) e1 (I.base.free b o e n hx)
  · obtain ⟨o', e1⟩ := I.base.there b o e hx
    exact there b o' (neC b o e hx) e1
  · obtain ⟨m1, e1⟩ := I.base.tbls b ps e
    obtain ⟨m2, e2⟩ := tbls b _ e1
    exact ⟨m1 ++ m2, by rw [e2, Array.append_assoc]⟩
  · obtain ⟨m, hn, hl⟩ := I.loc
    refine ⟨m, ns m hn, fun i x v e1 e2 e3 => ?_⟩
    obtain ⟨u, r, l⟩ := hl i x v e1 e2 e3
    refine ⟨u, r, ?_⟩
    rcases l with l | ⟨k, c, e, z⟩
    · exact .inl l
    · exact .inr ⟨k, c, e, cellK x c e _ z⟩
  · obtain ⟨v, z⟩ := I.cell x c e
    exact ⟨v, cellK x c e v z⟩
  · obtain ⟨m, ⟨o, _, _, ho, _⟩, _⟩ := I.loc
    exact free _ o (fun z => (hch _ z).2.1 rfl) ho I.free
  · obtain ⟨v, o, ho, hd⟩ := I.cell x c e
    exact free c o (fun z => (hch c z).2.2.1 x c e rfl) ho (I.freeC x c e)
  · obtain ⟨e, n, ne, nf, d⟩ := I.pin p hp
    have nch : p.1 ∉ ch := fun z => (hch p.1 z).2.2.2 p hp rfl
    exact ⟨keep p.1 p.2 ne nf nch e n, free p.1 p.2 nch e n, ne, nf, d⟩
theorem Inv.un {t' : Nat} (I : Inv X pins σ H s) (u : Un X.fs [] H H' s.heap h') (hok : HOk X.prog X.w H' h') : Inv X pins σ H' { s with heap := h', toks := t' } := by
  obtain ⟨m, ⟨o, es, ep, ho, r⟩, _⟩ := id I.loc
  obtain ⟨sl, hL⟩ := u.any ho I.free (by simp)
  exact I.step (g' := s.gens) (d' := s.drawn) (ch := []) (fun _ z => nomatch z) (fun b o _ hb _ e n => u.keep b o e n hb (by simp)) (fun b o _ hb _ e n => u.slot b o e n hb (by simp)) (fun b o _ e n => u.free b o e n (by simp)) (fun b o _ e => u.there b o e (by simp)) u.tups u.frzs u.tbls (fun m' hm => by
    obtain ⟨o', es', ep', ho', r'⟩ := hm
    rw [ho] at ho'; cases ho'
    exact ⟨_, es', ep', hL, r'⟩) hok I.bare
theorem Inv.call {g' : Array GenState} {t' : Nat} {d' : Drawn} {ch : List Addr} (I : Inv X pins σ H s) (u : Un (frs X.stack) ch H H' s.heap h') (hok : HOk X.prog X.w H' h') (hg : AllBare g')
    (hch : ∀ b ∈ ch, (b ∈ X.ex \/ X.s₀.heap.objs.size <= b) /\ b ≠ X.env.locals /\ (∀ x c, X.env.cells.lookup x = some c -> c ≠ b) /\ ∀ p ∈ X.pn ++ pins, p.1 ≠ b) :
    Inv X pins σ H' { s with heap := h', gens := g', drawn := d', toks := t' } := by
  obtain ⟨m, ⟨o, es, ep, ho, r⟩, _⟩ := id I.loc
  obtain ⟨sl, hL⟩ := u.any ho I.free fun z => (hch _ z).2.1 rfl
  exact I.step (ch := ch) hch (fun b o hL hb hc e n => u.keep b o e n (fun z => (List.mem_cons.mp (I.stkSub b z)).elim hL hb) hc) (fun b o _ _ hc e n => u.any e n hc) (fun b o hc e n => u.free b o e n hc) (fun b o hc e => u.there b o e hc) u.tups u.frzs u.tbls (fun m' hm => by
    obtain ⟨o', es', ep', ho', r'⟩ := hm
    rw [ho] at ho'; cases ho'
    exact ⟨_, es', ep', hL, r'⟩) hok hg
theorem Inv.turned {t' : Nat} {it : Addr} (I : Inv X pins σ H s) (k : ∀ b o, b ≠ it -> s.heap.get? b = some o -> h'.get? b = some o) (hn : H it = none) (hL : it ≠ X.env.locals)
    (h1 : it ∈ X.ex \/ X.s₀.heap.objs.size <= it) (h2 : ∀ x c, X.env.cells.lookup x = some c -> c ≠ it) (h3 : ∀ p ∈ X.pn ++ pins, p.1 ≠ it) : Inv X pins σ H { s with heap := h', toks := t' } := by
  have nit : ∀ b u, H b = some u -> b ≠ it := fun b u e z => by rw [z, hn] at e; cases e
  refine I.step (g' := s.gens) (d' := s.drawn) (ch := [it]) (fun b hb => ?_) (fun b o _ _ hc e _ => k b o (fun z => hc (by simp [z])) e) (fun b o _ _ hc e _ => ⟨o.slots, k b o (fun z => hc (by simp [z])) e⟩) (fun _ _ _ _ n => n)
    (fun b o hc e => ⟨o, k b o (fun z => hc (by simp [z])) e⟩) (fun _ _ e => e) (fun _ _ _ e => e) (fun b ps e => ⟨#[], by rw [e]; simp⟩) (fun m hm => ?_) (fun b u e => ?_) I.bare
  · have e : b = it := by simpa using hb
    subst e
    exact ⟨h1, hL, h2, h3⟩
  · obtain ⟨o, es, ep, ho, r⟩ := hm
    exact ⟨o, es, ep, k _ o (Ne.symm hL) ho, r⟩
  · refine (I.hok b u e).stay (fun c v hc q => k c v ?_ q) (fun _ q => q) fun _ _ q => q
    rcases hc with z | z
    · rw [z]; exact nit b u e
    · exact nit c _ z
theorem Inv.tok (I : Inv X pins σ H s) (t : Nat) : Inv X pins σ H { s with toks := t } := I.un (h' := s.heap) (t' := t) Un.refl I.hok
theorem Inv.kept {t' : Nat} (I : Inv X pins σ H s) (k : ∀ b u, s.heap.get? b = some u -> h'.get? b = some u) : Inv X pins σ H { s with heap := h', toks := t' } := I.un (Un.kept k) (I.hok.kept k)
theorem Inv.laid {a : Addr} {o : HO} {t' : Nat} (I : Inv X pins σ H s) (k : ∀ b u, s.heap.get? b = some u -> h'.get? b = some u) (hp : s.heap.objs.size <= a) (new : ObjOk X.prog X.w (upd H a o) h' a o) :
    Inv X pins σ (upd H a o) { s with heap := h', toks := t' } := I.un (Un.laid k hp (I.hok.fresh hp)) (I.hok.laid k hp new)
theorem Inv.write {x e : Addr} {o : HO} {t' : Nat} (I : Inv X pins σ H s) (mu : Mut (H x)) (he : e = x \/ H e = some (.own x)) (k : ∀ b u, b ≠ e -> s.heap.get? b = some u -> h'.get? b = some u) (heo : ∃ u, h'.get? e = some u)
    (new : ObjOk X.prog X.w (upd H x o) h' x o) : Inv X pins σ (upd H x o) { s with heap := h', toks := t' } := I.un (Un.write mu he k heo) (I.hok.write mu he k heo new)
theorem Inv.pins_of {pins' : List (Addr × Obj)} (I : Inv X pins σ H s) (h : ∀ p ∈ pins', s.heap.get? p.1 = some p.2 /\ H p.1 = none /\ p.1 ≠ X.env.locals /\ p.1 ∉ X.fs /\ ∀ v, p.2.data ≠ .cell v) : Inv X pins' σ H s :=
  ⟨I.ok, I.os, I.bare, I.base, I.loc, I.cell, I.free, I.freeC, fun p hp => (List.mem_append.mp hp).elim (fun z => I.pin p (List.mem_append_left _ z)) (h p), I.hok, I.len⟩
theorem nodup_ix {N : List Str} (hN : N.Nodup) {i j : Nat} {x : Str} (a : N[i]? = some x) (b : N[j]? = some x) : i = j := by
  obtain ⟨h1, e1⟩ := List.getElem?_eq_some_iff.mp a
  obtain ⟨h2, e2⟩ := List.getElem?_eq_some_iff.mp b
  exact (List.getElem_inj hN).mp (e1.trans e2.symm)
theorem store_ok2 {M : Model} {A : Around} {E : Value -> Shared -> Prop} {i : Nat} {x : Str} {v : V} {u : Value} {Q : Unit -> Shared -> Prop} (I : Inv X pins σ H s) (hN : X.N.Nodup) (hi : X.N[i]? = some x) (hx : Loc X.env.scope x) (r : RelV v u)
    (h : ∀ s', Inv X pins (σ.set i (some v)) H s' -> (∃ a, Heap.SameBut a s.heap s'.heap /\ (a = X.env.locals \/ X.env.cells.lookup x = some a)) -> Q () s') (hf : X.fn x = true \/ X.env.scope.names.lookup x = some .local := by first | exact .inl rfl | exact .inr rfl | assumption) : wpAny M A (storeName X.env x u) Q E s := by
  obtain ⟨m, hn, hl⟩ := id I.loc
  have hcls : (X.env.scope.kind == .class || (X.env.scope.kind == .module && X.env.locals != X.env.globals)) = false := by rw [I.ok.kind]; rfl
  have hiσ : i < σ.length := by rw [I.len]; exact (List.getElem?_eq_some_iff.mp hi).1
  have cne := I.cne
  have tracked : ∀ {a : Addr} {h' : Heap}, (∃ o, s.heap.get? a = some o /\ H a = none) -> Heap.SameBut a s.heap h' -> HOk X.prog X.w H h' := fun {a h'} ha hs b ob e => by
    obtain ⟨_, _, hfree⟩ := ha
    refine (I.hok b ob e).stay (fun c w' hc q => (hs.2 c ?_).trans q) (fun _ q => q) fun _ _ q => q
    rintro rfl
    rcases hc with rfl | hc
    · rw [hfree] at e; cases e
    · rw [hfree] at hc; cases hc
  rcases hx with hk | hk
  · refine wpAny_storeName_local hk hn (fun h' hn' hs => ?_) hcls
    obtain ⟨oL, _, _, hoL, _⟩ := id hn
    refine h _ ⟨I.ok, I.os, I.bare, ⟨fun b o e n hb hx => ?_, fun b o e n hb hx => ?_, I.base.free, fun b o e hx => ?_, I.base.tups, I.base.frzs, I.base.tbls⟩, ⟨_, hn', fun j y v' e1 e2 e3 => ?_⟩, fun y c e => ?_, I.free, I.freeC, fun p hp => ?_, tracked ⟨oL, hoL, I.free⟩ hs, by simpa using I.len⟩ ⟨_, hs, .inl rfl⟩
    · exact (hs.2 b (Nat.ne_of_lt (Nat.lt_of_lt_of_le (Heap.lt_size e) I.ok.above))).trans (I.base.keep b o e n hb hx)
    · obtain ⟨sl, e1⟩ := I.base.slot b o e n hb hx
      exact ⟨sl, (hs.2 b (Nat.ne_of_lt (Nat.lt_of_lt_of_le (Heap.lt_size e) I.ok.above))).trans e1⟩
    · obtain ⟨o', e1⟩ := I.base.there b o e hx
      exact ⟨o', (hs.2 b (Nat.ne_of_lt (Nat.lt_of_lt_of_le (Heap.lt_size e) I.ok.above))).trans e1⟩
    · by_cases hj : j = i
      · subst hj
        rw [hi] at e1; cases e1
        rw [List.getElem?_set_self hiσ] at e2
        cases e2
        exact ⟨u, r, .inl ⟨hk, by simp⟩⟩
      · rw [List.getElem?_set_ne (Ne.symm hj)] at e2
        obtain ⟨u', r', q⟩ := hl j y v' e1 e2 e3
        refine ⟨u', r', ?_⟩
        rcases q with ⟨k, e⟩ | ⟨k, c, e, z⟩
        · refine .inl ⟨k, ?_⟩
          have : y ≠ x := fun e => hj (nodup_ix hN e1 (e ▸ hi))
          simp [this, e]
        · exact .inr ⟨k, c, e, z.sameBut hs (cne y c e)⟩
    · obtain ⟨w', z⟩ := I.cell y c e
      exact ⟨w', z.sameBut hs (cne y c e)⟩
    · obtain ⟨e, n, ne, nf, d⟩ := I.pin p hp
      exact ⟨(hs.2 p.1 ne).trans e, n, ne, nf, d⟩
  · have hfn : X.fn x = true := by
      rcases hf with z | z
      · exact z
      · rw [z] at hk; cases hk
    obtain ⟨c, hc⟩ := I.ok.has x (.inl hk)
    obtain ⟨w', z⟩ := I.cell x c hc
    refine wpAny_storeName_cell I.ok.kind hk hc z (fun h' hc' hs => ?_)
    obtain ⟨oc, hoc, hocd⟩ := id z
    refine h { s with heap := h' } ⟨I.ok, I.os, I.bare, ⟨fun b o e n hb hx => ?_, fun b o e n hb hx => ?_, I.base.free, fun b o e hx => ?_, I.base.tups, I.base.frzs, I.base.tbls⟩, ⟨m, hn.sameBut hs (Ne.symm (cne x c hc)), fun j y v' e1 e2 e3 => ?_⟩, fun y c' e => ?_, I.free, I.freeC, fun p hp => ?_, tracked ⟨oc, hoc, I.freeC x c hc⟩ hs, by simpa using I.len⟩ ⟨c, hs, .inr hc⟩
    · exact (hs.2 b (Nat.ne_of_lt (Nat.lt_of_lt_of_le (Heap.lt_size e) (I.ok.cab x c hfn hc)))).trans (I.base.keep b o e n hb hx)
    · obtain ⟨sl, e1⟩ := I.base.slot b o e n hb hx
      exact ⟨sl, (hs.2 b (Nat.ne_of_lt (Nat.lt_of_lt_of_le (Heap.lt_size e) (I.ok.cab x c hfn hc)))).trans e1⟩
    · obtain ⟨o', e1⟩ := I.base.there b o e hx
      exact ⟨o', (hs.2 b (Nat.ne_of_lt (Nat.lt_of_lt_of_le (Heap.lt_size e) (I.ok.cab x c hfn hc)))).trans e1⟩
    · by_cases hj : j = i
      · subst hj
        rw [hi] at e1; cases e1
        rw [List.getElem?_set_self hiσ] at e2
        cases e2
        exact ⟨u, r, .inr ⟨.inl hk, c, hc, hc'⟩⟩
      · rw [List.getElem?_set_ne (Ne.symm hj)] at e2
        obtain ⟨u', r', q⟩ := hl j y v' e1 e2 e3
        refine ⟨u', r', ?_⟩
        rcases q with q | ⟨k, c', e, z'⟩
        · exact .inl q
        · refine .inr ⟨k, c', e, z'.sameBut hs ?_⟩
          rintro rfl
          exact hj (nodup_ix hN e1 (I.ok.inj _ _ _ e hc ▸ hi))
    · by_cases hcc : c' = c
      · subst hcc; exact ⟨_, hc'⟩
      · obtain ⟨w2, z2⟩ := I.cell y c' e
        exact ⟨w2, z2.sameBut hs hcc⟩
    · obtain ⟨e, n, ne, nf, d⟩ := I.pin p hp
      refine ⟨(hs.2 p.1 ?_).trans e, n, ne, nf, d⟩
      intro q
      rw [q, hoc] at e
      have q' : oc = p.2 := Option.some.inj e
      exact d w' (by rw [<- q']; exact hocd)
theorem store_ok {M : Model} {A : Around} {E : Value -> Shared -> Prop} {i : Nat} {x : Str} {v : V} {u : Value} {Q : Unit -> Shared -> Prop} (I : Inv X pins σ H s) (hN : X.N.Nodup) (hi : X.N[i]? = some x) (hx : Loc X.env.scope x) (r : RelV v u)
    (h : ∀ s', Inv X pins (σ.set i (some v)) H s' -> Q () s') (hf : X.fn x = true \/ X.env.scope.names.lookup x = some .local := by first | exact .inl rfl | exact .inr rfl | assumption) : wpAny M A (storeName X.env x u) Q E s :=
  store_ok2 I hN hi hx r (fun s' I' _ => h s' I') hf
theorem Inv.call' {s' : Shared} {ch : List Addr} (I : Inv X pins σ H s) (ho : s'.os = s.os) (u : Un (frs X.stack) ch H H' s.heap s'.heap) (hok : HOk X.prog X.w H' s'.heap) (hg : AllBare s'.gens)
    (hch : ∀ b ∈ ch, (b ∈ X.ex \/ X.s₀.heap.objs.size <= b) /\ b ≠ X.env.locals /\ (∀ x c, X.env.cells.lookup x = some c -> c ≠ b) /\ ∀ p ∈ X.pn ++ pins, p.1 ≠ b) : Inv X pins σ H' s' := by
  obtain ⟨h', g', d', t', o'⟩ := s'
  have e : o' = s.os := ho
  subst e
  exact I.call (g' := g') (t' := t') (d' := d') u hok hg hch
end
abbrev XK := Value -> Option Addr -> Hp -> Prop
abbrev St := List (Option V)
abbrev VK := V -> Hp -> Prop
abbrev TE := St -> Hp -> VK -> Prop
abbrev TT := St -> Hp -> (Bool -> Hp -> Prop) -> Prop
abbrev TA := St -> Hp -> (List V -> Hp -> Prop) -> Prop
structure Ends where
  nx : St -> Hp -> Prop
  rt : VK
  bk : St -> Hp -> Prop := fun _ _ => False
  ct : St -> Hp -> Prop := fun _ _ => False
abbrev TS := Ends -> St -> Hp -> Prop
def EP (X : Cx) (pins : List (Addr × Obj)) (σ : St) (Q : VK) (u : Value) (s' : Shared) : Prop := ∃ v H', Inv X pins σ H' s' /\ RelV v u /\ Q v H'
def TP (X : Cx) (pins : List (Addr × Obj)) (σ : St) (Q : Bool -> Hp -> Prop) (b : Bool) (s' : Shared) : Prop := ∃ H', Inv X pins σ H' s' /\ Q b H'
def AP (X : Cx) (pins : List (Addr × Obj)) (σ : St) (Q : List V -> Hp -> Prop) (us : List Value) (s' : Shared) : Prop := ∃ vs H', Inv X pins σ H' s' /\ Vals vs us /\ Q vs H'
def SP (X : Cx) (pins : List (Addr × Obj)) (D : Ends) (f : Flow) (s' : Shared) : Prop :=
  match f with
  | .next => ∃ σ' H', Inv X pins σ' H' s' /\ D.nx σ' H'
  | .brk => ∃ σ' H', Inv X pins σ' H' s' /\ D.bk σ' H'
  | .cont => ∃ σ' H', Inv X pins σ' H' s' /\ D.ct σ' H'
  | .ret u => ∃ v σ' H', Inv X pins σ' H' s' /\ RelV v u /\ D.rt v H'
def PE (X : Cx) (e : Expr) (t : TE) : Prop :=
  ∀ (pins : List (Addr × Obj)) (s : Shared) (σ : St) (H : Hp) (Q : VK), Inv X pins σ H s -> t σ H Q -> wpAny (model X.prog X.w) X.A (eval e X.env) (EP X pins σ Q) X.xe s
def PT (X : Cx) (e : Expr) (t : TT) : Prop :=
  ∀ (pins : List (Addr × Obj)) (s : Shared) (σ : St) (H : Hp) (Q : Bool -> Hp -> Prop), Inv X pins σ H s -> t σ H Q -> wpAny (model X.prog X.w) X.A (isTrue e X.env (eval e X.env)) (TP X pins σ Q) X.xe s
def PW (X : Cx) (e : Expr) (t : TT) : Prop :=
  ∀ (whole : Sem Value) (pins : List (Addr × Obj)) (s : Shared) (σ : St) (H : Hp) (Q : Bool -> Hp -> Prop), Inv X pins σ H s -> t σ H Q -> wpAny (model X.prog X.w) X.A (isTrue e X.env whole) (TP X pins σ Q) X.xe s
theorem PW.pt {X : Cx} {e : Expr} {t : TT} (h : PW X e t) : PT X e t := h _
def PA (X : Cx) (es : List Expr) (t : TA) : Prop :=
  ∀ (pos : Pos) (pins : List (Addr × Obj)) (s : Shared) (σ : St) (H : Hp) (Q : List V -> Hp -> Prop), Inv X pins σ H s -> t σ H Q -> wpAny (model X.prog X.w) X.A (spliced (backTo pos (starEach es X.env))) (AP X pins σ Q) X.xe s
def PS (X : Cx) (st : Stmt) (t : TS) : Prop :=
  ∀ (pins : List (Addr × Obj)) (s : Shared) (σ : St) (H : Hp) (D : Ends), Inv X pins σ H s -> t D σ H -> wpAny (model X.prog X.w) X.A (exec st X.env) (SP X pins D) X.xe s
def PSs (X : Cx) (st : List Stmt) (t : TS) : Prop :=
  ∀ (pins : List (Addr × Obj)) (s : Shared) (σ : St) (H : Hp) (D : Ends), Inv X pins σ H s -> t D σ H -> wpAny (model X.prog X.w) X.A (execs st X.env) (SP X pins D) X.xe s
theorem thn {α : Type} {t : Sem α} {Q Q' : α -> Shared -> Prop} {M : Model} {A : Around} {E : Value -> Shared -> Prop} {s : Shared} (h : wpAny M A t Q E s) (hQ : ∀ a s, Q a s -> Q' a s) : wpAny M A t Q' E s := wpAny_mono h hQ fun _ _ x => x
section
variable {X : Cx}
def tVar (i : Nat) : TE := fun σ H Q => ∃ v, σ[i]? = some (some v) /\ Q v H
def tC (v : V) : TE := fun _ H Q => Q v H
theorem pe_var {i : Nat} {x : Str} {pos : Pos} (hN : X.N[i]? = some x) (hv : Vis X.env.scope x) (hd : (x == ("__debug__" : Str)) = false := by decide) (hcd : (x == ("__classdict__" : Str)) = false := by decide) : PE X (.Name x pos) (tVar i) := by
  intro pins s σ H Q I h
  obtain ⟨v, e, h⟩ := h
  obtain ⟨m, hn, hl⟩ := I.loc
  obtain ⟨u, r, l⟩ := hl i x v hN e hv
  have fin : EP X pins σ Q u s := ⟨v, H, I, r, h⟩
  rcases l with ⟨hk, hm⟩ | ⟨hk, c, hc, hcell⟩
  · exact wpAny_Name (wpAny_loadName_local I.ok.kind hk hn hm fin) hd
  · rcases hk with hk | hk
    · exact wpAny_Name (wpAny_loadName_cell I.ok.kind hk hc hcell fin) hd
    · exact wpAny_Name (wpAny_loadName_free I.ok.kind hk hc hcell fin hcd) hd
theorem pe_int {i j pos} : PE X (.Constant (.int i) j pos) (tC (.int i)) := fun _ _ _ H _ I h => wpAny_Constant_int ⟨.int i, H, I.tok _, ⟨_, rfl⟩, h⟩
theorem pe_bl {b j pos} : PE X (.Constant (.bool b) j pos) (tC (.bl b)) := fun _ _ _ H _ I h => Constant_bool ⟨.bl b, H, I, rfl, h⟩
def Gl (X : Cx) (x : Str) : Prop := X.env.kindOf x = some .globalImplicit
theorem ld_glob {E : Value -> Shared -> Prop} {pins : List (Addr × Obj)} {s : Shared} {σ : St} {H : Hp} {x : Str} {u : Value} {pos : Pos} {Q : Value -> Shared -> Prop} (I : Inv X pins σ H s) (hg : Gl X x) (hm : X.mg x = some u) (h : Q u s)
    (hd : (x == ("__debug__" : Str)) = false := by decide) : wpAny (model X.prog X.w) X.A (eval (.Name x pos) X.env) Q E s :=
  Calls.Name_function_global I.ok.kind hg (Calls.loadGlobal_global (by rw [I.ok.glob]; exact I.mod.glob.keeps I.bk) hm h) hd
theorem ld_blt {E : Value -> Shared -> Prop} {pins : List (Addr × Obj)} {s : Shared} {σ : St} {H : Hp} {x : Str} {u : Value} {pos : Pos} {Q : Value -> Shared -> Prop} (I : Inv X pins σ H s) (hg : Gl X x) (hm : X.mg x = none) (hv : bootBuiltins x = some u) (h : Q u s)
    (hn : x ≠ "__name__" := by decide) (hd : (x == ("__debug__" : Str)) = false := by decide) : wpAny (model X.prog X.w) X.A (eval (.Name x pos) X.env) Q E s := by
  obtain ⟨mb, h1, h2⟩ := I.mod.blt
  exact Calls.Name_function_global I.ok.kind hg (Calls.loadGlobal_builtin (by rw [I.ok.glob]; exact I.mod.glob.keeps I.bk) hm (by rw [I.ok.blt]; exact h1.keeps I.bk) ((h2 x hn).trans hv) h) hd
theorem pe_bltn {x : Str} {v : V} {u : Value} {pos : Pos} (hg : Gl X x) (hm : X.mg x = none) (hv : bootBuiltins x = some u) (r : RelV v u) (hn : x ≠ "__name__" := by decide) (hd : (x == ("__debug__" : Str)) = false := by decide) : PE X (.Name x pos) (tC v) :=
  fun _ _ _ H _ I h => ld_blt I hg hm hv ⟨v, H, I, r, h⟩ hn hd
def t2I (ta tb : TE) (k : Int -> Int -> Hp -> Prop) : St -> Hp -> Prop := fun σ H => ta σ H fun x H1 => tb σ H1 fun y H2 => ∃ i j, x = .int i /\ y = .int j /\ k i j H2
def tAdd (ta tb : TE) : TE := fun σ H Q => t2I ta tb (fun i j H2 => Q (.int (i + j)) H2) σ H
def tSub (ta tb : TE) : TE := fun σ H Q => t2I ta tb (fun i j H2 => Q (.int (i - j)) H2) σ H
def tMul (ta tb : TE) : TE := fun σ H Q => t2I ta tb (fun i j H2 => (-(2 ^ 64) < i /\ i < 2 ^ 64) /\ Q (.int (i * j)) H2) σ H
variable {a b : Expr} {ta tb : TE} {pos : Pos}
def PC (X : Cx) (op : CmpOp) (a b : Expr) (t : TE) : Prop :=
  ∀ (pins : List (Addr × Obj)) (s : Shared) (σ : St) (H : Hp) (Q : VK), Inv X pins σ H s -> t σ H Q ->
    wpAny (model X.prog X.w) X.A (eval a X.env) (fun v s₁ => wpAny (model X.prog X.w) X.A (eval b X.env) (fun u s₂ => wpAny (model X.prog X.w) X.A (compareOp op v u) (EP X pins σ Q) X.xe s₂) X.xe s₁) X.xe s
def tCmp (p : Int -> Int -> Bool) (ta tb : TE) : TE := fun σ H Q => t2I ta tb (fun i j H2 => Q (.bl (p i j)) H2) σ H
abbrev tLt : TE -> TE -> TE := tCmp fun i j => decide (i < j)
abbrev tLe : TE -> TE -> TE := tCmp fun i j => decide (i <= j)
abbrev tGt : TE -> TE -> TE := tCmp fun i j => decide (j < i)
abbrev tGe : TE -> TE -> TE := tCmp fun i j => decide (j <= i)
abbrev tEqI : TE -> TE -> TE := tCmp fun i j => decide (i = j)
abbrev tNeI : TE -> TE -> TE := tCmp fun i j => !decide (i = j)
def tIsN (ta : TE) : TE := fun σ H Q => ta σ H fun x H1 => Q (.bl (decide (x = .non))) H1
def tNotN (ta : TE) : TE := fun σ H Q => ta σ H fun x H1 => Q (.bl (!decide (x = .non))) H1
def tB (t : TE) : TT := fun σ H Q => t σ H fun x H1 => ∃ c, x = .bl c /\ Q c H1
theorem pt_val {e : Expr} {t : TE} (h : PE X e t) (he : ∀ whole, isTrue e X.env whole = (do let v <- whole; standAt e.pos; holding [v] (truthy v)) := by intro _; rfl) : PT X e (tB t) := by
  intro pins s σ H Q I hw
  refine isTrue_plain (thn (h pins s σ H _ I hw) fun v s1 ⟨x, H1, I1, r1, q1⟩ => ?_) (he _)
  obtain ⟨d, rfl, q⟩ := q1
  cases r1
  exact wpAny_truthy_bool ⟨H1, I1, q⟩
variable {tA tB' : TT} {rest : List Expr}
def tAnd (t u : TT) : TT := fun σ H Q => t σ H fun c H1 => if c = true then u σ H1 Q else Q false H1
def tOr (t u : TT) : TT := fun σ H Q => t σ H fun c H1 => if c = true then Q true H1 else u σ H1 Q
def tNot (t : TT) : TT := fun σ H Q => t σ H fun c H1 => Q (!c) H1
theorem pw_and1 (ha : PT X a tA) : PW X (.BoolOp .And [a] pos) tA := by
  intro wh pins s σ H Q I h
  refine isTrue_and (thn (ha pins s σ H Q I h) fun c s1 e => ?_)
  cases c with
  | true => exact isTrue_and_nil e
  | false => exact e
theorem pw_or1 (ha : PT X a tA) : PW X (.BoolOp .Or [a] pos) tA := by
  intro wh pins s σ H Q I h
  refine isTrue_or (thn (ha pins s σ H Q I h) fun c s1 e => ?_)
  cases c with
  | false => exact isTrue_or_nil e
  | true => exact e
theorem pw_and (ha : PT X a tA) (hb : PW X (.BoolOp .And (b :: rest) pos) tB') : PW X (.BoolOp .And (a :: b :: rest) pos) (tAnd tA tB') := by
  intro wh pins s σ H Q I h
  refine isTrue_and (thn (ha pins s σ H _ I h) fun c s1 ⟨H1, I1, q1⟩ => ?_)
  cases c with
  | true => exact hb wh pins s1 σ H1 Q I1 q1
  | false => exact ⟨H1, I1, q1⟩
theorem pw_or (ha : PT X a tA) (hb : PW X (.BoolOp .Or (b :: rest) pos) tB') : PW X (.BoolOp .Or (a :: b :: rest) pos) (tOr tA tB') := by
  intro wh pins s σ H Q I h
  refine isTrue_or (thn (ha pins s σ H _ I h) fun c s1 ⟨H1, I1, q1⟩ => ?_)
  cases c with
  | true => exact ⟨H1, I1, q1⟩
  | false => exact hb wh pins s1 σ H1 Q I1 q1
theorem pt_not (ha : PT X a tA) : PT X (.UnaryOp .Not a pos) (tNot tA) := by
  intro pins s σ H Q I h
  exact isTrue_not (ha pins s σ H (fun c H1 => Q (!c) H1) I h)
def tAndV (ta tb : TE) : TE := fun σ H Q => ta σ H fun x H1 => ∃ c, x = .bl c /\ if c = true then tb σ H1 Q else Q (.bl false) H1
def tOrV (ta tb : TE) : TE := fun σ H Q => ta σ H fun x H1 => ∃ c, x = .bl c /\ if c = true then Q (.bl true) H1 else tb σ H1 Q
def tNotV (ta : TE) : TE := fun σ H Q => ta σ H fun x H1 => ∃ c, x = .bl c /\ Q (.bl (!c)) H1
theorem pe_one {op} {t : TE} (h : PE X a t) : PE X (.BoolOp op [a] pos) t := fun pins s σ H Q I hw => BoolOp_one (h pins s σ H Q I hw)
theorem pe_and (ha : PE X a ta) (hb : PE X (.BoolOp .And (b :: rest) pos) tb) : PE X (.BoolOp .And (a :: b :: rest) pos) (tAndV ta tb) := by
  intro pins s σ H Q I h
  refine BoolOp_and (thn (ha pins s σ H _ I h) fun v s1 ⟨x, H1, I1, r1, q1⟩ => ?_)
  obtain ⟨c, rfl, q1⟩ := q1
  cases r1
  refine wpAny_truthy_bool ?_
  cases c with
  | true => exact hb pins s1 σ H1 Q I1 q1
  | false => exact ⟨.bl false, H1, I1, rfl, q1⟩
theorem pe_not (ha : PE X a ta) : PE X (.UnaryOp .Not a pos) (tNotV ta) := by
  intro pins s σ H Q I h
  refine UnaryOp_ (thn (ha pins s σ H _ I h) fun v s1 ⟨x, H1, I1, r1, q1⟩ => ?_)
  obtain ⟨c, rfl, q1⟩ := q1
  cases r1
  exact not_of (wpAny_truthy_bool ⟨.bl (!c), H1, I1, rfl, q1⟩)
def tIf (t : TT) (ta tb : TE) : TE := fun σ H Q => t σ H fun c H1 => if c = true then ta σ H1 Q else tb σ H1 Q
theorem pe_ifExp {c : Expr} (hc : PT X c tA) (ha : PE X a ta) (hb : PE X b tb) : PE X (.IfExp c a b pos) (tIf tA ta tb) := by
  intro pins s σ H Q I h
  refine wpAny_IfExp (thn (hc pins s σ H _ I h) fun d s1 ⟨H1, I1, q1⟩ => ?_)
  cases d with
  | true => exact ha pins s1 σ H1 Q I1 q1
  | false => exact hb pins s1 σ H1 Q I1 q1
end
def SqL (K : PySem.W.Frag) (H : Hp) (a : Addr) (xs : List V) : Prop :=
  Rd H a (.lst xs) \/
    ∃ (o : Obj) (its : Array Value) (n : Nat), K.lookup a = some o /\ o.cls = .type "list" /\ o.dict = none /\ o.data = .seq its n /\ its.size <= sizeLine /\ Vals xs its.toList
def SqT (K : PySem.W.Frag) (H : Hp) (a : Addr) (xs : List V) : Prop :=
  Rd H a (.tup xs) \/
    ∃ (o : Obj) (its : Array Value) (n : Nat), K.lookup a = some o /\ o.cls = .type "tuple" /\ o.data = .seq its n /\ its.size <= sizeLine /\ Vals xs its.toList
def absV : Value -> Option V
  | .none => some .non
  | .bool b => some (.bl b)
  | .int i _ => some (.int i)
  | .str x _ => some (.str x)
  | .bytes b _ => some (.byt b)
  | .float b _ => some (.flt b)
  | .ref a => some (.ref a)
  | .type n => some (.ty n)
  | _ => none
theorem RelV.abs {x : V} {u : Value} (r : RelV x u) : absV u = some x := by
  cases x with
  | non => cases r; rfl
  | bl _ => cases r; rfl
  | int _ => obtain ⟨t, rfl⟩ := r; rfl
  | str _ => obtain ⟨t, rfl⟩ := r; rfl
  | byt _ => obtain ⟨t, rfl⟩ := r; rfl
  | flt _ => obtain ⟨t, rfl⟩ := r; rfl
  | ref _ => cases r; rfl
  | ty _ => cases r; rfl
theorem RelV.inj {x y : V} {u : Value} (r : RelV x u) (q : RelV y u) : x = y := Option.some.inj (r.abs.symm.trans q.abs)
theorem Vals.inj : ∀ {xs ys : List V} {us : List Value}, Vals xs us -> Vals ys us -> xs = ys
  | _, _, _, .nil, .nil => rfl
  | _, _, _, .cons r t, .cons r' t' => by rw [r.inj r', Vals.inj t t']
section
variable {X : Cx} {pins : List (Addr × Obj)} {σ : St} {H : Hp} {s : Shared} {a : Addr} {xs ys : List V}
theorem SqL.of {K : PySem.W.Frag} (h : H a = some (.lst xs)) : SqL K H a xs := .inl (.inl h)
theorem SqT.of {K : PySem.W.Frag} (h : H a = some (.tup xs)) : SqT K H a xs := .inl (.inl h)
theorem Inv.list (I : Inv X pins σ H s) (h : SqL X.K H a xs) : ∃ its : List Value, Vals xs its /\ PlainL s.heap a its.toArray /\ xs.length <= sizeLine := by
  rcases h with h | ⟨o, its, n, hk, hc, hd, hs, hz, r⟩
  · obtain ⟨z, its, n, r, e⟩ := h.ok I.hok
    exact ⟨its, r, ⟨_, n, e, rfl, rfl, rfl⟩, z⟩
  · refine ⟨its.toList, r, ⟨o, n, I.kIn a o hk, hc, hd, by simpa using hs⟩, ?_⟩
    have e := r.length
    simp only [Array.length_toList] at e
    lia
theorem Inv.tuple (I : Inv X pins σ H s) (h : SqT X.K H a xs) : ∃ its : List Value, Vals xs its /\ IsTup s.heap a its.toArray /\ xs.length <= sizeLine := by
  rcases h with h | ⟨o, its, n, hk, hc, hs, hz, r⟩
  · obtain ⟨z, its, r, p⟩ := h.ok I.hok
    exact ⟨its, r, p, z⟩
  · refine ⟨its.toList, r, ⟨o, I.kIn a o hk, hc, n, by simpa using hs⟩, ?_⟩
    have e := r.length
    simp only [Array.length_toList] at e
    lia
theorem Inv.list_inj (I : Inv X pins σ H s) (h : SqL X.K H a xs) (h' : SqL X.K H a ys) : xs = ys := by
  obtain ⟨its, r, ⟨o, n, e, _, _, d⟩, _⟩ := I.list h
  obtain ⟨its', r', ⟨o', n', e', _, _, d'⟩, _⟩ := I.list h'
  rw [e] at e'; cases e'
  rw [d] at d'
  injection d' with d1 _
  have : its = its' := by simpa using congrArg Array.toList d1
  subst this
  exact r.inj r'
theorem Inv.tuple_inj (I : Inv X pins σ H s) (h : SqT X.K H a xs) (h' : SqT X.K H a ys) : xs = ys := by
  obtain ⟨its, r, ⟨o, e, _, n, d⟩, _⟩ := I.tuple h
  obtain ⟨its', r', ⟨o', e', _, n', d'⟩, _⟩ := I.tuple h'
  rw [e] at e'; cases e'
  rw [d] at d'
  injection d' with d1 _
  have : its = its' := by simpa using congrArg Array.toList d1
  subst this
  exact r.inj r'
end
abbrev Cx.wish (X : Cx) (E : Value -> Shared -> Prop) : Cx := { X with xe := E }
abbrev Cx.nox (X : Cx) : Cx := X.wish fun _ _ => False
theorem Cx.Ok.wish {X : Cx} (ok : X.Ok) (E : Value -> Shared -> Prop) : (X.wish E).Ok :=
  ⟨ok.mod, ok.kind, ok.glob, ok.blt, ok.above, ok.inj, ok.has, ok.cab, ok.hd, ok.frames, ok.stk, ok.exf, ok.bs, ok.bsz, ok.noex, ok.exfs, ok.funs, ok.frf⟩
theorem Cx.Ok.unwish {X : Cx} {E : Value -> Shared -> Prop} (ok : (X.wish E).Ok) : X.Ok :=
  ⟨ok.mod, ok.kind, ok.glob, ok.blt, ok.above, ok.inj, ok.has, ok.cab, ok.hd, ok.frames, ok.stk, ok.exf, ok.bs, ok.bsz, ok.noex, ok.exfs, ok.funs, ok.frf⟩
section
variable {X : Cx} {pins : List (Addr × Obj)} {σ : St} {H : Hp} {s : Shared} {E : Value -> Shared -> Prop}
theorem Inv.wish (I : Inv X pins σ H s) (E : Value -> Shared -> Prop) : Inv (X.wish E) pins σ H s := ⟨I.ok.wish E, I.os, I.bare, I.base, I.loc, I.cell, I.free, I.freeC, I.pin, I.hok, I.len⟩
theorem Inv.unwish (I : Inv (X.wish E) pins σ H s) : Inv X pins σ H s := ⟨I.ok.unwish, I.os, I.bare, I.base, I.loc, I.cell, I.free, I.freeC, I.pin, I.hok, I.len⟩
theorem SP.unwish {D : Ends} {f : Flow} {s' : Shared} (h : SP (X.wish E) pins D f s') : SP X pins D f s' := by
  cases f with
  | next => obtain ⟨σ', H', I, q⟩ := h; exact ⟨σ', H', I.unwish, q⟩
  | brk => obtain ⟨σ', H', I, q⟩ := h; exact ⟨σ', H', I.unwish, q⟩
  | cont => obtain ⟨σ', H', I, q⟩ := h; exact ⟨σ', H', I.unwish, q⟩
  | ret u => obtain ⟨v, σ', H', I, r, q⟩ := h; exact ⟨v, σ', H', I.unwish, r, q⟩
theorem PSs.nox {st : List Stmt} {t : TS} (h : PSs X.nox st t) : PSs X st t := fun pins s σ H D I hw =>
  wpAny_mono (h pins s σ H D (I.wish _) hw) (fun _ _ q => q.unwish) fun _ _ z => False.elim z
end
section
variable {X : Cx} {st : Stmt} {rest : List Stmt} {t u : TS} {e : Expr} {te : TE} {pos : Pos}
def tNext : TS := fun D σ H => D.nx σ H
def tSeq (t u : TS) : TS := fun D σ H => t { D with nx := u D } σ H
theorem pss_nil : PSs X [] tNext := fun _ _ σ H _ I h => wpAny_execs_nil ⟨σ, H, I, h⟩
theorem pss_cons (h1 : PS X st t) (h2 : PSs X rest u) : PSs X (st :: rest) (tSeq t u) := by
  intro pins s σ H D I h
  refine wpAny_execs_cons (thn (h1 pins s σ H { D with nx := u D } I h) fun f s1 q => ?_)
  cases f with
  | next =>
    obtain ⟨σ', H', I', q⟩ := q
    exact h2 pins s1 σ' H' D I' q
  | ret v => exact q
  | brk => exact q
  | cont => exact q
theorem pss_one (h1 : PS X st t) : PSs X [st] t := by
  intro pins s σ H D I h
  refine wpAny_execs_cons (thn (h1 pins s σ H D I h) fun f s1 q => ?_)
  cases f with
  | next => exact wpAny_execs_nil q
  | ret v => exact q
  | brk => exact q
  | cont => exact q
def tBreak : TS := fun D σ H => D.bk σ H
def tCont : TS := fun D σ H => D.ct σ H
theorem Inv.quiet {pins : List (Addr × Obj)} {σ : St} {H : Hp} {s : Shared} (I : Inv X pins σ H s) : interactive X.env = false := by simp [interactive, I.ok.kind]
def tDrop (te : TE) : TS := fun D σ H => te σ H fun _ H1 => D.nx σ H1
theorem ps_expr (he : PE X e te) (hs : swapsWith e none pos.line X.env = pure false := by rfl) : PS X (.Expr e pos) (tDrop te) := by
  intro pins s σ H D I h
  exact wpAny_Expr_any (thn (he pins s σ H _ I h) fun v s1 ⟨x, H1, I1, r1, q1⟩ => ⟨σ, H1, I1, q1⟩) I.quiet hs
def tRet (te : TE) : TS := fun D σ H => te σ H D.rt
theorem ps_ret (he : PE X e te) : PS X (.Return (some e) pos) (tRet te) := by
  intro pins s σ H D I h
  exact wpAny_Return_some (thn (he pins s σ H _ I h) fun v s1 ⟨x, H1, I1, r1, q1⟩ => ⟨x, σ, H1, I1, r1, q1⟩)
def tRetN : TS := fun D _ H => D.rt .non H
def tIfS (c : TT) (t u : TS) : TS := fun D σ H => c σ H fun b H1 => if b = true then t D σ H1 else u D σ H1
theorem ps_if {c : Expr} {a b : List Stmt} {tc : TT} (hc : PT X c tc) (ha : PSs X a t) (hb : PSs X b u) : PS X (.If c a b pos) (tIfS tc t u) := by
  intro pins s σ H D I h
  refine wpAny_If (thn (hc pins s σ H _ I h) fun d s1 ⟨H1, I1, q1⟩ => ?_)
  cases d with
  | true => exact ha pins s1 σ H1 D I1 q1
  | false => exact hb pins s1 σ H1 D I1 q1
def tNever : TS := fun _ _ _ => False
theorem pss_never {sts : List Stmt} : PSs X sts tNever := fun _ _ _ _ _ _ h => h.elim
end
abbrev TG := V -> St -> Hp -> (St -> Hp -> Prop) -> Prop
abbrev TGs := List V -> St -> Hp -> (St -> Hp -> Prop) -> Prop
def PG (X : Cx) (target : Expr) (t : TG) : Prop :=
  ∀ (pins : List (Addr × Obj)) (s : Shared) (σ : St) (H : Hp) (v : V) (u : Value) (Q : St -> Hp -> Prop), Inv X pins σ H s -> RelV v u -> t v σ H Q ->
    wpAny (model X.prog X.w) X.A (assign target X.env u) (fun _ s' => ∃ σ' H', Inv X pins σ' H' s' /\ Q σ' H') X.xe s
def PGs (X : Cx) (ts : List Expr) (t : TGs) : Prop :=
  ∀ (pins : List (Addr × Obj)) (s : Shared) (σ : St) (H : Hp) (vs : List V) (us : List Value) (Q : St -> Hp -> Prop), Inv X pins σ H s -> Vals vs us -> t vs σ H Q ->
    wpAny (model X.prog X.w) X.A (assignInOrder ((assignEach ts X.env).map (·.2)) us) (fun _ s' => ∃ σ' H', Inv X pins σ' H' s' /\ Q σ' H') X.xe s
abbrev TSet := V -> V -> V -> Hp -> (Hp -> Prop) -> Prop
def PSet (X : Cx) (t : TSet) : Prop :=
  ∀ (pins : List (Addr × Obj)) (s : Shared) (σ : St) (H : Hp) (o i v : V) (ov iv u : Value) (Q : Hp -> Prop), Inv X pins σ H s -> RelV o ov -> RelV i iv -> RelV v u -> t o i v H Q ->
    wpAny (model X.prog X.w) X.A (setItem ov iv u) (fun _ s' => ∃ H', Inv X pins σ H' s' /\ Q H') X.xe s
abbrev TIp := V -> V -> Hp -> VK -> Prop
def PIp (X : Cx) (op : Operator) (t : TIp) : Prop :=
  ∀ (pins : List (Addr × Obj)) (s : Shared) (σ : St) (H : Hp) (x y : V) (v u : Value) (Q : VK), Inv X pins σ H s -> RelV x v -> RelV y u -> t x y H Q ->
    wpAny (model X.prog X.w) X.A (inplaceOp op v u) (EP X pins σ Q) X.xe s
section
variable {X : Cx} {pos : Pos}
def gName (i : Nat) : TG := fun v σ H Q => Q (σ.set i (some v)) H
theorem pg_name {i : Nat} {x : Str} (hN : X.N.Nodup) (hi : X.N[i]? = some x) (hx : Loc X.env.scope x) (hf : X.fn x = true \/ X.env.scope.names.lookup x = some .local := by first | exact .inl rfl | exact .inr rfl | assumption) : PG X (.Name x pos) (gName i) := by
  intro pins s σ H v u Q I r h
  exact wpAny_assign_Name (store_ok I hN hi hx r (fun s' I' => ⟨_, H, I', h⟩) hf)
def gNil : TGs := fun vs σ H Q => vs = [] /\ Q σ H
def gCons (t : TG) (u : TGs) : TGs := fun vs σ H Q => ∃ v r, vs = v :: r /\ t v σ H fun σ' H' => u r σ' H' Q
theorem pgs_nil : PGs X [] gNil := by
  intro pins s σ H vs us Q I r h
  obtain ⟨e, h⟩ := h
  subst e
  cases r
  exact assignInOrder_nil ⟨σ, H, I, h⟩
theorem pgs_cons {e : Expr} {es : List Expr} {t : TG} {u : TGs} (h1 : PG X e t) (h2 : PGs X es u)
    (hs : (assignEach (e :: es) X.env).map (·.2) = assign e X.env :: (assignEach es X.env).map (·.2) := by rfl) : PGs X (e :: es) (gCons t u) := by
  intro pins s σ H vs us Q I r h
  obtain ⟨v, vr, e1, h⟩ := h
  subst e1
  cases r with
  | cons r rr =>
    rw [hs]
    refine assignInOrder_cons (thn (h1 pins s σ H _ _ _ I r h) fun _ s1 ⟨σ1, H1, I1, q1⟩ => ?_)
    exact h2 pins s1 σ1 H1 _ _ Q I1 rr q1
def gTup (K : PySem.W.Frag) (n : Nat) (t : TGs) : TG := fun v σ H Q => ∃ a xs, v = .ref a /\ SqT K H a xs /\ xs.length = n /\ t xs σ H Q
theorem pg_tup {es : List Expr} {k : Nat} {t : TGs} {n : Nat} (hc : X.calm = true) (h : PGs X es t)
    (hn : (assignEach es X.env).length = n := by rfl) (hst : (assignEach es X.env).findIdx? (·.1) = none := by rfl) : PG X (.Tuple es k pos) (gTup X.K n t) := by
  intro pins s σ H v u Q I r hw
  obtain ⟨a, xs, e1, hq, hl, hw⟩ := hw
  subst e1
  cases r
  obtain ⟨its, rv, ht, hz⟩ := I.tuple hq
  refine assign_Tuple_tuple (I.ok.hd hc) ht (by simp [hn, <- hl, rv.length]) hst fun h' hx => ?_
  have I1 : Inv X pins σ H { s with heap := h' } := I.kept (t' := s.toks) fun b o e => hx b o (Nat.ne_of_lt (Heap.lt_size e)) e
  exact h pins _ σ H xs _ Q I1 (by simpa using rv) hw
def gSub (to ti : TE) (t : TSet) : TG := fun v σ H Q => to σ H fun o H1 => ti σ H1 fun i H2 => t o i v H2 fun H3 => Q σ H3
theorem pg_sub {o i : Expr} {to ti : TE} {t : TSet} (ho : PE X o to) (hi : PE X i ti) (hs : PSet X t)
    (ha : ∀ v, assign (.Subscript o i pos) X.env v = (do
      let ov <- holding [v] (eval o X.env)
      let iv <- holding [v, ov] (eval i X.env)
      standAt pos
      holding [v, ov, iv] (setItem ov iv v)
      release [v, ov, iv] []) := by intro _; rfl) : PG X (.Subscript o i pos) (gSub to ti t) := by
  intro pins s σ H v u Q I r h
  rw [ha]
  refine wpAny_bind (wpAny_holding (thn (ho pins s σ H _ I h) fun ov s1 ⟨x, H1, I1, r1, q1⟩ => ?_))
  refine wpAny_bind (wpAny_holding (thn (hi pins s1 σ H1 _ I1 q1) fun iv s2 ⟨y, H2, I2, r2, q2⟩ => ?_))
  refine wpAny_bind (wpAny_standAt (wpAny_bind (wpAny_holding (thn (hs pins s2 σ H2 x y v ov iv u _ I2 r1 r2 r q2) fun _ s3 ⟨H3, I3, q3⟩ => ?_))))
  exact wpAny_release ⟨σ, H3, I3, q3⟩
def tAsg (te : TE) (g : TG) : TS := fun D σ H => te σ H fun x H1 => g x σ H1 D.nx
theorem ps_asg {tg e : Expr} {te : TE} {g : TG} (he : PE X e te) (hg : PG X tg g) (hs : swapsWithSole [tg] e pos.line X.env = pure false := by rfl) (hw : swappedStores [tg] e X.env = pure none := by rfl)
    (h1 : (assignEach [tg] X.env).map (·.2) = [assign tg X.env] := by rfl) : PS X (.Assign [tg] e pos) (tAsg te g) := by
  intro pins s σ H D I h
  refine wpAny_Assign_stores (thn (he pins s σ H _ I h) fun v s1 ⟨x, H1, I1, r1, q1⟩ => ?_) hs hw
  rw [h1]
  exact thn (hg pins s1 σ H1 x v _ I1 r1 q1) fun _ s2 q => q
theorem ps_set {i : Nat} {x : Str} {e : Expr} {te : TE} {pos' : Pos} (hN : X.N.Nodup) (hi : X.N[i]? = some x) (hx : Loc X.env.scope x) (he : PE X e te) (hs : swapsWith e (some (.Name x pos')) pos.line X.env = pure false := by rfl) (hf : X.fn x = true \/ X.env.scope.names.lookup x = some .local := by first | exact .inl rfl | exact .inr rfl | assumption) :
    PS X (.Assign [.Name x pos'] e pos) (tAsg te (gName i)) := by
  intro pins s σ H D I h
  refine wpAny_Assign_Name (thn (he pins s σ H _ I h) fun v s1 ⟨y, H1, I1, r1, q1⟩ => ?_) hs
  exact store_ok I1 hN hi hx r1 (fun s2 I2 => ⟨_, H1, I2, q1⟩) hf
def tPar (i j : Nat) (ta : TA) : TS := fun D σ H => ta σ H fun vs H1 => ∃ v w, vs = [v, w] /\ D.nx ((σ.set i (some v)).set j (some w)) H1
def tAug (i : Nat) (te : TE) (ti : TIp) : TS := fun D σ H => ∃ x, σ[i]? = some (some x) /\ te σ H fun y H1 => ti x y H1 fun z H2 => D.nx (σ.set i (some z)) H2
def tAugS (to ti te : TE) (tget : V -> V -> Hp -> VK -> Prop) (tip : TIp) (tset : TSet) : TS := fun D σ H => to σ H fun o H1 => ti σ H1 fun i H2 => tget o i H2 fun x H3 => te σ H3 fun y H4 => tip x y H4 fun z H5 => tset o i z H5 fun H6 => D.nx σ H6
def PGet (X : Cx) (t : V -> V -> Hp -> VK -> Prop) : Prop :=
  ∀ (pins : List (Addr × Obj)) (s : Shared) (σ : St) (H : Hp) (o i : V) (ov iv : Value) (Q : VK), Inv X pins σ H s -> RelV o ov -> RelV i iv -> t o i H Q ->
    wpAny (model X.prog X.w) X.A (getItem ov iv) (EP X pins σ Q) X.xe s
def ipI (f : Int -> Int -> Int) : TIp := fun x y H Q => ∃ i j, x = .int i /\ y = .int j /\ Q (.int (f i j)) H
def tWhile (c : TT) (tb : TS) : TS := fun D σ H => ∃ W : Nat -> St -> Hp -> Prop, (∃ m, W m σ H) /\ ∀ m σ H, W m σ H ->
  c σ H fun b H1 => if b = true then ∃ N : St -> Hp -> Prop, (∀ σ' H', N σ' H' -> ∃ m', m' < m /\ W m' σ' H') /\ tb { D with nx := N, ct := N, bk := D.nx } σ H1 else D.nx σ H1
end
structure It where
  go : Nat -> Hp -> Prop
  yld : Nat -> Hp -> V -> Hp -> Prop
  stop : Nat -> Hp -> Prop
def FpOk (X : Cx) (pins : List (Addr × Obj)) (H : Hp) (b : Addr) : Prop :=
  H b = none /\ b ≠ X.env.locals /\ b ∉ X.fs /\ (b ∈ X.ex \/ X.s₀.heap.objs.size <= b) /\ (∀ x c, X.env.cells.lookup x = some c -> c ≠ b) /\ ∀ p ∈ X.pn ++ pins, p.1 ≠ b
theorem Inv.fpOk {X : Cx} {pins : List (Addr × Obj)} {σ : St} {H H' : Hp} {s : Shared} {b : Addr} (I : Inv X pins σ H s) (hb : s.heap.objs.size <= b) (hn : H' b = none) : FpOk X pins H' b := by
  refine ⟨hn, Nat.ne_of_gt (Nat.lt_of_lt_of_le I.lt hb), I.nofs hb, .inr (Nat.le_trans I.sz hb), fun x c e z => ?_, fun p hp z => ?_⟩
  · obtain ⟨v, q⟩ := I.cell x c e
    exact absurd (Nat.lt_of_lt_of_le q.lt (by rw [z]; exact hb)) (Nat.lt_irrefl _)
  · exact absurd (Nat.lt_of_lt_of_le (Heap.lt_size (I.pin p hp).1) (by rw [z]; exact hb)) (Nat.lt_irrefl _)
structure Turn (P : Program) (w : World) (K : PySem.W.Frag) (tg : Expr) (J : It) (fp : List Addr) (it : Addr) (tn : Nat -> Heap -> Prop) : Prop where
  mem : it ∈ fp
  obj : ∀ i h, tn i h -> ∀ b ∈ fp, ∃ o, h.get? b = some o /\ ∀ v, o.data ≠ .cell v
  keep : ∀ i h h', tn i h -> (∀ b ∈ fp, ∀ o, h.get? b = some o -> h'.get? b = some o) -> tn i h'
  item : ∀ (X : Cx), X.prog = P -> X.w = w -> X.K = K -> X.calm = true -> ∀ (i : Nat) (pins : List (Addr × Obj)) (s : Shared) (σ : St) (H : Hp) (E : Value -> Shared -> Prop), Inv X pins σ H s -> (∀ b ∈ fp, FpOk X pins H b) -> tn i s.heap -> J.go i H ->
    wpAny (model P w) X.A (pyNext (.ref it)) (fun r s1 => ∃ u, r = some u /\
      wpAny (model P w) X.A (letOwnedTupleGo tg (.ref it) u) (fun _ s2 => ∃ x H', Inv X pins σ H' s2 /\ RelV x u /\ J.yld i H x H' /\ tn (i + 1) s2.heap /\ ∀ b ∈ fp, H' b = none) E s1) E s
  done : ∀ (X : Cx), X.prog = P -> X.w = w -> X.K = K -> X.calm = true -> ∀ (i : Nat) (pins : List (Addr × Obj)) (s : Shared) (σ : St) (H : Hp) (E : Value -> Shared -> Prop), Inv X pins σ H s -> (∀ b ∈ fp, FpOk X pins H b) -> tn i s.heap -> J.stop i H ->
    wpAny (model P w) X.A (pyNext (.ref it)) (fun r s1 => r = none /\ Inv X pins σ H s1) E s
  self : ∀ (A : Around) (i : Nat) (s : Shared) (Q : Value -> Shared -> Prop) (E : Value -> Shared -> Prop), tn i s.heap -> Q (.ref it) s -> wpAny (model P w) A (pyIter (.ref it)) Q E s
abbrev TI := St -> Hp -> (It -> Hp -> Prop) -> Prop
def PIE (X : Cx) (pins : List (Addr × Obj)) (σ : St) (tg : Expr) (R : It -> Hp -> Prop) (itv : Value) (s2 : Shared) : Prop :=
  ∃ (it : Addr) (fp : List Addr) (tn : Nat -> Heap -> Prop) (J : It) (H' : Hp), itv = .ref it /\ Inv X pins σ H' s2 /\ Turn X.prog X.w X.K tg J fp it tn /\ tn 0 s2.heap /\ (∀ b ∈ fp, FpOk X pins H' b) /\ R J H'
def PI (X : Cx) (tg iter : Expr) (wi : TI) : Prop :=
  ∀ (pins : List (Addr × Obj)) (s : Shared) (σ : St) (H : Hp) (R : It -> Hp -> Prop), Inv X pins σ H s -> wi σ H R ->
    wpAny (model X.prog X.w) X.A (eval iter X.env) (fun v s1 => wpAny (model X.prog X.w) X.A (pyIter v) (PIE X pins σ tg R) X.xe s1) X.xe s
theorem go_of {M : Model} {A : Around} {E : Value -> Shared -> Prop} {s : Shared} {tg : Expr} {it : Addr} {u : Value} {o : Obj} {n : String} {vs : Array Value} {Q : Unit -> Shared -> Prop} (ho : s.heap.get? it = some o) (hc : o.cls = .type n) (hd : o.data = .fields vs)
    (hn : ["enumerate", "zip", "dict_itemiterator", "dict_reverseitemiterator", "odict_iterator", "itertools.zip_longest", "itertools.pairwise"].contains n = false) (hQ : Q () s) : wpAny M A (letOwnedTupleGo tg (.ref it) u) Q E s := by
  unfold letOwnedTupleGo
  cases tg <;> first
    | exact wpAny_pure hQ
    | (cases u <;> first
        | exact wpAny_pure hQ
        | (refine wpAny_bind (wpAny_load ho ?_)
           rw [hc, hd]
           show wpAny M A (if (["enumerate", "zip", "dict_itemiterator", "dict_reverseitemiterator", "odict_iterator", "itertools.zip_longest", "itertools.pairwise"].contains n && vs[0]? == some (rawInt _)) = true then _ else _) Q E s
           rw [if_neg (by intro h; rw [hn, Bool.false_and] at h; cases h)]
           exact wpAny_pure hQ))
def Itl (K : PySem.W.Frag) (a : Addr) : It :=
  ⟨fun i H => ∃ xs x, SqL K H a xs /\ xs[i]? = some x, fun i H x H' => H' = H /\ ∀ xs, SqL K H a xs -> xs[i]? = some x, fun i H => ∃ xs, SqL K H a xs /\ xs.length <= i⟩
def Itt (K : PySem.W.Frag) (a : Addr) : It :=
  ⟨fun i H => ∃ xs x, SqT K H a xs /\ xs[i]? = some x, fun i H x H' => H' = H /\ ∀ xs, SqT K H a xs -> xs[i]? = some x, fun i H => ∃ xs, SqT K H a xs /\ xs.length <= i⟩
def Itr (lo : Int) (n : Nat) : It := ⟨fun i _ => i < n, fun i H x H' => H' = H /\ x = .int (lo + i), fun i _ => n <= i⟩
theorem turn_list {P : Program} {w : World} {K : PySem.W.Frag} {tg : Expr} (a it : Addr) : Turn P w K tg (Itl K a) [it] it (fun i h => h.IsListIter it a i) where
  mem := by simp
  obj := fun i h st b hb => by
    have e : b = it := by simpa using hb
    subst e
    obtain ⟨o, e, c, d⟩ := st
    exact ⟨o, e, fun v z => by rw [d] at z; cases z⟩
  keep := fun i h h' st k => st.at fun o e => k it (by simp) o e
  item := by
    intro X hP hw hK hc i pins s σ H E I hf st hg
    subst hP hw hK
    obtain ⟨xs, x, hq, hx⟩ := hg
    obtain ⟨its, rv, p, hz⟩ := I.list hq
    obtain ⟨u, hu, ru⟩ := rv.get hx
    obtain ⟨f0, f1, f2, f3, f4, f5⟩ := hf it (by simp)
    refine wpAny_pyNext_list_item st p.isList (x := u) (by simpa using hu) fun h' st' sb => ?_
    have I1 : Inv X pins σ H { s with heap := h' } := I.turned (t' := s.toks) (fun b o hb e => (sb.2 b hb).trans e) f0 f1 f3 f4 f5
    obtain ⟨o, e, c, d⟩ := id st'
    exact ⟨u, rfl, go_of (s := { s with heap := h' }) e c d (by decide) ⟨x, H, I1, ru, ⟨rfl, fun ys hy => by rw [I.list_inj hy hq]; exact hx⟩, st', fun b hb => (hf b hb).1⟩⟩
  done := by
    intro X hP hw hK hc i pins s σ H E I hf st hg
    subst hP hw hK
    obtain ⟨xs, hq, hx⟩ := hg
    obtain ⟨its, rv, p, hz⟩ := I.list hq
    obtain ⟨f0, f1, f2, f3, f4, f5⟩ := hf it (by simp)
    have hl := rv.length
    exact wpAny_pyNext_list_end (I.ok.hd hc) st p.isList (by simp; lia) fun h' eb => ⟨rfl, I.turned (t' := s.toks) (fun b o hb e => eb b o hb e) f0 f1 f3 f4 f5⟩
  self := fun _ _ _ _ _ st h => wpAny_pyIter_listiter st h
theorem turn_tuple {P : Program} {w : World} {K : PySem.W.Frag} {tg : Expr} (a it : Addr) : Turn P w K tg (Itt K a) [it] it (fun i h => h.IsTupleIter it a i) where
  mem := by simp
  obj := fun i h st b hb => by
    have e : b = it := by simpa using hb
    subst e
    obtain ⟨o, e, c, d⟩ := st
    exact ⟨o, e, fun v z => by rw [d] at z; cases z⟩
  keep := fun i h h' st k => st.at fun o e => k it (by simp) o e
  item := by
    intro X hP hw hK hc i pins s σ H E I hf st hg
    subst hP hw hK
    obtain ⟨xs, x, hq, hx⟩ := hg
    obtain ⟨its, rv, p, hz⟩ := I.tuple hq
    obtain ⟨u, hu, ru⟩ := rv.get hx
    obtain ⟨f0, f1, f2, f3, f4, f5⟩ := hf it (by simp)
    refine wpAny_pyNext_tuple_item st (show s.heap.IsTuple a its.toArray from p) (x := u) (by simpa using hu) fun h' st' sb => ?_
    have I1 : Inv X pins σ H { s with heap := h' } := I.turned (t' := s.toks) (fun b o hb e => (sb.2 b hb).trans e) f0 f1 f3 f4 f5
    obtain ⟨o, e, c, d⟩ := id st'
    exact ⟨u, rfl, go_of (s := { s with heap := h' }) e c d (by decide) ⟨x, H, I1, ru, ⟨rfl, fun ys hy => by rw [I.tuple_inj hy hq]; exact hx⟩, st', fun b hb => (hf b hb).1⟩⟩
  done := by
    intro X hP hw hK hc i pins s σ H E I hf st hg
    subst hP hw hK
    obtain ⟨xs, hq, hx⟩ := hg
    obtain ⟨its, rv, p, hz⟩ := I.tuple hq
    obtain ⟨f0, f1, f2, f3, f4, f5⟩ := hf it (by simp)
    have hl := rv.length
    exact wpAny_pyNext_tuple_end (I.ok.hd hc) st (show s.heap.IsTuple a its.toArray from p) (by simp; lia) fun h' eb => ⟨rfl, I.turned (t' := s.toks) (fun b o hb e => eb b o hb e) f0 f1 f3 f4 f5⟩
  self := fun _ _ _ _ _ st h => wpAny_pyIter_tupleiter st h
theorem turn_range {P : Program} {w : World} {K : PySem.W.Frag} {tg : Expr} (it : Addr) (lo : Int) (n : Nat) : Turn P w K tg (Itr lo n) [it] it (fun i h => IsRangeIter h it (lo + (i : Nat) * 1) ((n : Int) - (i : Nat)) 1) where
  mem := by simp
  obj := fun i h st b hb => by
    have e : b = it := by simpa using hb
    subst e
    exact ⟨_, st, fun v z => by
      have z' : Data.fields _ = Data.cell v := z
      cases z'⟩
  keep := fun i h h' st k => k it (by simp) _ st
  item := by
    intro X hP hw hK hc i pins s σ H E I hf st hg
    subst hP hw hK
    obtain ⟨f0, f1, f2, f3, f4, f5⟩ := hf it (by simp)
    have W := Walks.range (prog := X.prog) (w := X.w) (I.ok.hd hc) it lo 1 n
    refine W.item i s _ _ hg st fun v h' tk hv st' kk => ?_
    obtain ⟨t, rfl⟩ := hv
    have I1 : Inv X pins σ H { s with heap := h', toks := tk } := I.turned (fun b o hb e => kk b o (by simpa using hb) e) f0 f1 f3 f4 f5
    refine ⟨_, rfl, go_of (s := { s with heap := h', toks := tk }) (n := "range_iterator") st' rfl rfl (by decide) ⟨.int (lo + i), H, I1, ⟨t, ?_⟩, ⟨rfl, rfl⟩, st', fun b hb => (hf b hb).1⟩⟩
    rw [Int.mul_one]
  done := by
    intro X hP hw hK hc i pins s σ H E I hf st hg
    subst hP hw hK
    obtain ⟨f0, f1, f2, f3, f4, f5⟩ := hf it (by simp)
    exact wpAny_pyNext_range_end (I.ok.hd hc) st (by have : n <= i := hg; lia) fun h' eb => ⟨rfl, I.turned (t' := s.toks) (fun b o hb e => eb b o hb e) f0 f1 f3 f4 f5⟩
  self := fun _ _ _ _ _ st h => wpAny_pyIter_rangeiter st h
section
variable {X : Cx} {tg : Expr}
def iList (K : PySem.W.Frag) (tl : TE) : TI := fun σ H R => tl σ H fun x H1 => ∃ a, x = .ref a /\ (∃ xs, SqL K H1 a xs) /\ R (Itl K a) H1
def iTup (K : PySem.W.Frag) (tl : TE) : TI := fun σ H R => tl σ H fun x H1 => ∃ a, x = .ref a /\ (∃ xs, SqT K H1 a xs) /\ R (Itt K a) H1
theorem pi_list {l : Expr} {tl : TE} (hl : PE X l tl) : PI X tg l (iList X.K tl) := by
  intro pins s σ H R I h
  refine thn (hl pins s σ H _ I h) fun v s1 ⟨x, H1, I1, r1, q1⟩ => ?_
  obtain ⟨a, e, ⟨xs, hq⟩, q⟩ := q1
  subst e
  cases r1
  obtain ⟨its, rv, p, hz⟩ := I1.list hq
  refine wpAny_pyIter_list p.isList ?_
  refine ⟨s1.heap.objs.size, [s1.heap.objs.size], _, _, H1, rfl, I1.kept (t' := s1.toks) fun b o e => Heap.get?_push_of_some _ e, turn_list a _, ⟨_, Heap.get?_push_size _ rfl, rfl, rfl⟩, fun b hb => ?_, q⟩
  have e : b = s1.heap.objs.size := by simpa using hb
  subst e
  exact I1.fpOk (Nat.le_refl _) (I1.hok.fresh (Nat.le_refl _))
theorem pi_tup {l : Expr} {tl : TE} (hl : PE X l tl) : PI X tg l (iTup X.K tl) := by
  intro pins s σ H R I h
  refine thn (hl pins s σ H _ I h) fun v s1 ⟨x, H1, I1, r1, q1⟩ => ?_
  obtain ⟨a, e, ⟨xs, hq⟩, q⟩ := q1
  subst e
  cases r1
  obtain ⟨its, rv, p, hz⟩ := I1.tuple hq
  refine wpAny_pyIter_tuple (show s1.heap.IsTuple a its.toArray from p) ?_
  refine ⟨s1.heap.objs.size, [s1.heap.objs.size], _, _, H1, rfl, I1.kept (t' := s1.toks) fun b o e => Heap.get?_push_of_some _ e, turn_tuple a _, ⟨_, Heap.get?_push_size _ rfl, rfl, rfl⟩, fun b hb => ?_, q⟩
  have e : b = s1.heap.objs.size := by simpa using hb
  subst e
  exact I1.fpOk (Nat.le_refl _) (I1.hok.fresh (Nat.le_refl _))
theorem range_it {pins : List (Addr × Obj)} {σ : St} {H : Hp} {s : Shared} {R : It -> Hp -> Prop} {E : Value -> Shared -> Prop} {lo hi : Int} {t u v : Tok} {tk : Nat} (I : Inv X pins σ H s) (h1 : -(2 ^ 62) <= lo) (h2 : lo < 2 ^ 62) (h3 : -(2 ^ 62) <= hi) (h4 : hi < 2 ^ 62)
    (q : R (Itr lo (hi - lo).toNat) H) : wpAny (model X.prog X.w) X.A (pyIter (.ref s.heap.objs.size)) (PIE X pins σ tg R) E { s with heap := s.heap.push { cls := .type "range", data := .fields #[.int lo t, .int hi u, .int 1 v] }, toks := tk } := by
  refine wpAny_pyIter_range (IsRange.new ..) (small_one h1 h2 h3 h4) ?_
  have I1 : Inv X pins σ H { s with heap := s.heap.push { cls := .type "range", data := .fields #[.int lo t, .int hi u, .int 1 v] }, toks := tk } := I.kept fun b o e => Heap.get?_push_of_some _ e
  refine ⟨(s.heap.push { cls := .type "range", data := .fields #[.int lo t, .int hi u, .int 1 v] }).objs.size, [(s.heap.push { cls := .type "range", data := .fields #[.int lo t, .int hi u, .int 1 v] }).objs.size], _, _, H, rfl,
    I1.kept (t' := tk) fun b o e => Heap.get?_push_of_some _ e, turn_range _ lo (hi - lo).toNat, ?_, fun b hb => ?_, q⟩
  · have e1 : lo + ((0 : Nat) : Int) * 1 = lo := by simp
    have e2 : (((hi - lo).toNat : Nat) : Int) - ((0 : Nat) : Int) = Builtin.Range.rangeSize lo hi 1 := by rw [rangeSize_one]; split <;> lia
    show IsRangeIter _ _ (lo + ((0 : Nat) : Int) * 1) ((((hi - lo).toNat : Nat) : Int) - ((0 : Nat) : Int)) 1
    rw [e1, e2]
    exact Heap.get?_push_size _ rfl
  · have e : b = (s.heap.push { cls := .type "range", data := .fields #[.int lo t, .int hi u, .int 1 v] }).objs.size := by simpa using hb
    subst e
    exact I1.fpOk (Nat.le_refl _) (I1.hok.fresh (Nat.le_refl _))
def iRng1 (ta : TA) : TI := fun σ H R => ta σ H fun vs H1 => ∃ j : Int, vs = [.int j] /\ -(2 ^ 62) <= j /\ j < 2 ^ 62 /\ R (Itr 0 j.toNat) H1
def iRng2 (ta : TA) : TI := fun σ H R => ta σ H fun vs H1 => ∃ i j : Int, vs = [.int i, .int j] /\ (-(2 ^ 62) <= i /\ i < 2 ^ 62 /\ -(2 ^ 62) <= j /\ j < 2 ^ 62) /\ R (Itr i (j - i).toNat) H1
theorem pi_range1 {a : Expr} {ta : TA} {p pos : Pos} (hg : Gl X "range") (hm : X.mg "range" = none) (ha : PA X [a] ta) (hs : starEach [a] X.env = [(false, eval a X.env)] := by rfl) : PI X tg (.Call (.Name "range" p) [a] [] pos) (iRng1 ta) := by
  intro pins s σ H R I h
  refine Call_ (ld_blt I hg hm boot_range (PyProof.Rows.callWith_type1 (thn (ha pos pins s σ H _ I h) fun us s1 ⟨vs, H1, I1, r1, q1⟩ => ?_) hs rfl))
  obtain ⟨j, e, q1, q2, q⟩ := q1
  subst e
  cases r1 with
  | cons r rr =>
    cases rr
    obtain ⟨t, rfl⟩ := r
    exact call_range_1 (range_it I1 (by lia) (by lia) q1 q2 (by simpa using q))
def tFor (wi : TI) (g : TG) (tb : TS) : TS := fun D σ H => wi σ H fun J H1 => ∃ W : Nat -> Nat -> St -> Hp -> Prop, (∃ m, W 0 m σ H1) /\ ∀ i m σ H, W i m σ H ->
  (J.stop i H /\ D.nx σ H) \/ (J.go i H /\ ∃ N : St -> Hp -> Prop, (∀ σ' H', N σ' H' -> ∃ m', m' < m /\ W (i + 1) m' σ' H') /\ ∀ x H', J.yld i H x H' -> g x σ H' fun σ2 H2 => tb { D with nx := N, ct := N, bk := D.nx } σ2 H2)
def pinsAt (fp : List Addr) (h : Heap) : List (Addr × Obj) := fp.filterMap fun b => (h.get? b).map fun o => (b, o)
theorem mem_pinsAt {fp : List Addr} {h : Heap} {b : Addr} {o : Obj} (hb : b ∈ fp) (e : h.get? b = some o) : (b, o) ∈ pinsAt fp h := List.mem_filterMap.mpr ⟨b, hb, by rw [e]; rfl⟩
theorem of_pinsAt {fp : List Addr} {h : Heap} {p : Addr × Obj} (hp : p ∈ pinsAt fp h) : p.1 ∈ fp /\ h.get? p.1 = some p.2 := by
  obtain ⟨b, hb, e⟩ := List.mem_filterMap.mp hp
  cases q : h.get? b with
  | none => rw [q] at e; cases e
  | some o =>
    rw [q] at e
    have e' : (b, o) = p := Option.some.inj e
    subst e'
    exact ⟨hb, q⟩
theorem Inv.pinned {pins : List (Addr × Obj)} {σ : St} {H : Hp} {s : Shared} {fp : List Addr} (I : Inv X pins σ H s) (hf : ∀ b ∈ fp, FpOk X pins H b) (ho : ∀ b ∈ fp, ∃ o, s.heap.get? b = some o /\ ∀ v, o.data ≠ .cell v) : Inv X (pins ++ pinsAt fp s.heap) σ H s :=
  I.pins_of fun p hp => (List.mem_append.mp hp).elim (fun z => I.pin p (List.mem_append_right _ z)) fun z => by
    obtain ⟨hb, e⟩ := of_pinsAt z
    obtain ⟨f0, f1, f2, _⟩ := hf p.1 hb
    obtain ⟨o, e', d⟩ := ho p.1 hb
    rw [e] at e'; cases e'
    exact ⟨e, f0, f1, f2, d⟩
theorem Inv.unpinned {pins pl : List (Addr × Obj)} {σ : St} {H : Hp} {s : Shared} (I : Inv X (pins ++ pl) σ H s) : Inv X pins σ H s := I.pins_of fun p hp => I.pin p (List.mem_append_right _ (List.mem_append_left _ hp))
theorem ps_for {iter : Expr} {body : List Stmt} {wi : TI} {g : TG} {tb : TS} {pos : Pos} (hp : PassesOwn (model X.prog X.w) X.A X.env X.xe) (hc : X.calm = true) (hi : PI X tg iter wi) (hg : PG X tg g) (hb : PSs X body tb)
    (hs : ∀ x, foldedSetIterable iter X.env x = pure x := by intro _; rfl) : PS X (.For tg iter body [] pos) (tFor wi g tb) := by
  intro pins s σ H D I h
  refine wpAny_For (thn (hi pins s σ H _ I h) fun v s1 h1 => thn h1 fun itv s2 h2 => ?_) hs
  obtain ⟨it, fp, tn, J, H2, e, I2, T, st2, f2, W, ⟨m0, w0⟩, turn⟩ := h2
  subst e
  have stat : ∀ {H' : Hp}, (∀ b ∈ fp, H' b = none) -> ∀ b ∈ fp, FpOk X pins H' b := fun hn b hb => ⟨hn b hb, (f2 b hb).2⟩
  refine codeAny_forLoop_any (fun n s' => ∃ i σ' H', Inv X pins σ' H' s' /\ tn i s'.heap /\ (∀ b ∈ fp, H' b = none) /\ W i n σ' H') ?_ m0 ⟨0, σ, H2, I2, st2, fun b hb => (f2 b hb).1, w0⟩
  rintro n s3 ⟨i, σ3, H3, I3, st3, fr3, w3⟩
  rcases turn i n σ3 H3 w3 with ⟨stop, qn⟩ | ⟨go, N, hN, step⟩
  · refine wpAny_passesOwn hp (thn (T.done X rfl rfl rfl hc i pins s3 σ3 H3 X.xe I3 (stat fr3) st3 stop) fun r s4 ⟨hr, I4⟩ => ?_)
    subst hr
    exact wpAny_execs_nil ⟨σ3, H3, I4, qn⟩
  · refine wpAny_passesOwn hp (thn (T.item X rfl rfl rfl hc i pins s3 σ3 H3 X.xe I3 (stat fr3) st3 go) fun r s4 ⟨u, hr, h4⟩ => ?_)
    subst hr
    refine wpAny_passesOwn hp (thn h4 fun _ s5 ⟨x, H5, I5, r5, y5, st5, fr5⟩ => ?_)
    have I5' := I5.pinned (stat fr5) (T.obj _ _ st5)
    refine wpAny_passesOwn hp (thn (hg _ s5 σ3 H5 x u _ I5' r5 (step x H5 y5)) fun _ s6 ⟨σ6, H6, I6, q6⟩ => ?_)
    refine wpAny_passesOwn hp (thn (hb _ s6 σ6 H6 _ I6 q6) fun f s7 q7 => ?_)
    have again : ∀ {σ7 : St} {H7 : Hp}, Inv X (pins ++ pinsAt fp s5.heap) σ7 H7 s7 -> N σ7 H7 -> ∃ m, m < n /\ ∃ i σ' H', Inv X pins σ' H' s7 /\ tn i s7.heap /\ (∀ b ∈ fp, H' b = none) /\ W i m σ' H' := fun {σ7 H7} I7 n7 => by
      obtain ⟨m', hm, w7⟩ := hN σ7 H7 n7
      refine ⟨m', hm, i + 1, σ7, H7, I7.unpinned, T.keep _ _ _ st5 fun b hb o e => (I7.pin (b, o) (List.mem_append_right _ (List.mem_append_right _ (mem_pinsAt hb e)))).1, fun b hb => ?_, w7⟩
      obtain ⟨o, e, d⟩ := T.obj _ _ st5 b hb
      exact (I7.pin (b, o) (List.mem_append_right _ (List.mem_append_right _ (mem_pinsAt hb e)))).2.1
    cases f with
    | next => obtain ⟨σ7, H7, I7, n7⟩ := q7; exact again I7 n7
    | cont => obtain ⟨σ7, H7, I7, n7⟩ := q7; exact again I7 n7
    | brk => obtain ⟨σ7, H7, I7, q7⟩ := q7; exact ⟨σ7, H7, I7.unpinned, q7⟩
    | ret v => obtain ⟨x7, σ7, H7, I7, r7, q7⟩ := q7; exact ⟨x7, σ7, H7, I7.unpinned, r7, q7⟩
end
theorem for_list {K : PySem.W.Frag} {a : Addr} {xs : List V} {g : TG} {tb : TS} {D : Ends} {σ : St} {H : Hp} (Pv : Nat -> St -> Hp -> Prop) (h0 : Pv 0 σ H) (hl : ∀ i σ H, i <= xs.length -> Pv i σ H -> SqL K H a xs)
    (hs : ∀ i x σ H, xs[i]? = some x -> Pv i σ H -> g x σ H fun σ2 H2 => tb { D with nx := Pv (i + 1), ct := Pv (i + 1), bk := D.nx } σ2 H2) (hd : ∀ σ H, Pv xs.length σ H -> D.nx σ H) :
    ∃ W : Nat -> Nat -> St -> Hp -> Prop, (∃ m, W 0 m σ H) /\ ∀ i m σ H, W i m σ H ->
      ((Itl K a).stop i H /\ D.nx σ H) \/ ((Itl K a).go i H /\ ∃ N : St -> Hp -> Prop, (∀ σ' H', N σ' H' -> ∃ m', m' < m /\ W (i + 1) m' σ' H') /\ ∀ x H', (Itl K a).yld i H x H' -> g x σ H' fun σ2 H2 => tb { D with nx := N, ct := N, bk := D.nx } σ2 H2) := by
  refine ⟨fun i m σ H => m = xs.length - i /\ i <= xs.length /\ Pv i σ H, ⟨xs.length, by simp, Nat.zero_le _, h0⟩, ?_⟩
  rintro i m σ H ⟨rfl, hi, p⟩
  have q := hl i σ H hi p
  by_cases hlt : i < xs.length
  · refine .inr ⟨⟨xs, xs[i], q, by simp [hlt]⟩, Pv (i + 1), fun σ' H' p' => ⟨xs.length - (i + 1), by lia, rfl, hlt, p'⟩, fun x H' y => ?_⟩
    obtain ⟨e, y⟩ := y
    subst e
    exact hs i x σ _ (y xs q) p
  · have e : i = xs.length := by lia
    subst e
    exact .inl ⟨⟨xs, q, Nat.le_refl _⟩, hd σ H p⟩
theorem for_tup {K : PySem.W.Frag} {a : Addr} {xs : List V} {g : TG} {tb : TS} {D : Ends} {σ : St} {H : Hp} (Pv : Nat -> St -> Hp -> Prop) (h0 : Pv 0 σ H) (hl : ∀ i σ H, i <= xs.length -> Pv i σ H -> SqT K H a xs)
    (hs : ∀ i x σ H, xs[i]? = some x -> Pv i σ H -> g x σ H fun σ2 H2 => tb { D with nx := Pv (i + 1), ct := Pv (i + 1), bk := D.nx } σ2 H2) (hd : ∀ σ H, Pv xs.length σ H -> D.nx σ H) :
    ∃ W : Nat -> Nat -> St -> Hp -> Prop, (∃ m, W 0 m σ H) /\ ∀ i m σ H, W i m σ H ->
      ((Itt K a).stop i H /\ D.nx σ H) \/ ((Itt K a).go i H /\ ∃ N : St -> Hp -> Prop, (∀ σ' H', N σ' H' -> ∃ m', m' < m /\ W (i + 1) m' σ' H') /\ ∀ x H', (Itt K a).yld i H x H' -> g x σ H' fun σ2 H2 => tb { D with nx := N, ct := N, bk := D.nx } σ2 H2) := by
  refine ⟨fun i m σ H => m = xs.length - i /\ i <= xs.length /\ Pv i σ H, ⟨xs.length, by simp, Nat.zero_le _, h0⟩, ?_⟩
  rintro i m σ H ⟨rfl, hi, p⟩
  have q := hl i σ H hi p
  by_cases hlt : i < xs.length
  · refine .inr ⟨⟨xs, xs[i], q, by simp [hlt]⟩, Pv (i + 1), fun σ' H' p' => ⟨xs.length - (i + 1), by lia, rfl, hlt, p'⟩, fun x H' y => ?_⟩
    obtain ⟨e, y⟩ := y
    subst e
    exact hs i x σ _ (y xs q) p
  · have e : i = xs.length := by lia
    subst e
    exact .inl ⟨⟨xs, q, Nat.le_refl _⟩, hd σ H p⟩
theorem for_range {lo : Int} {n : Nat} {g : TG} {tb : TS} {D : Ends} {σ : St} {H : Hp} (Pv : Nat -> St -> Hp -> Prop) (h0 : Pv 0 σ H)
    (hs : ∀ i σ H, i < n -> Pv i σ H -> g (.int (lo + i)) σ H fun σ2 H2 => tb { D with nx := Pv (i + 1), ct := Pv (i + 1), bk := D.nx } σ2 H2) (hd : ∀ σ H, Pv n σ H -> D.nx σ H) :
    ∃ W : Nat -> Nat -> St -> Hp -> Prop, (∃ m, W 0 m σ H) /\ ∀ i m σ H, W i m σ H ->
      ((Itr lo n).stop i H /\ D.nx σ H) \/ ((Itr lo n).go i H /\ ∃ N : St -> Hp -> Prop, (∀ σ' H', N σ' H' -> ∃ m', m' < m /\ W (i + 1) m' σ' H') /\ ∀ x H', (Itr lo n).yld i H x H' -> g x σ H' fun σ2 H2 => tb { D with nx := N, ct := N, bk := D.nx } σ2 H2) := by
  refine ⟨fun i m σ H => m = n - i /\ i <= n /\ Pv i σ H, ⟨n, by simp, Nat.zero_le _, h0⟩, ?_⟩
  rintro i m σ H ⟨rfl, hi, p⟩
  by_cases hlt : i < n
  · refine .inr ⟨hlt, Pv (i + 1), fun σ' H' p' => ⟨n - (i + 1), by lia, rfl, hlt, p'⟩, fun x H' y => ?_⟩
    obtain ⟨e, y⟩ := y
    subst e y
    exact hs i σ _ hlt p
  · have e : i = n := by lia
    subst e
    exact .inl ⟨Nat.le_refl _, hd σ H p⟩
abbrev R2 := V -> V -> Hp -> VK -> Prop
def OpR (X : Cx) (f : Value -> Value -> Sem Value) (r : R2) : Prop :=
  ∀ (pins : List (Addr × Obj)) (s : Shared) (σ : St) (H : Hp) (x y : V) (v u : Value) (Q : VK), Inv X pins σ H s -> RelV x v -> RelV y u -> r x y H Q ->
    wpAny (model X.prog X.w) X.A (f v u) (EP X pins σ Q) X.xe s
def UnR (X : Cx) (f : Value -> Sem Value) (r : V -> Hp -> VK -> Prop) : Prop :=
  ∀ (pins : List (Addr × Obj)) (s : Shared) (σ : St) (H : Hp) (x : V) (v : Value) (Q : VK), Inv X pins σ H s -> RelV x v -> r x H Q ->
    wpAny (model X.prog X.w) X.A (f v) (EP X pins σ Q) X.xe s
def CallR (X : Cx) (f : Value) (r : List V -> Hp -> VK -> Prop) : Prop :=
  ∀ (pins : List (Addr × Obj)) (s : Shared) (σ : St) (H : Hp) (xs : List V) (us : List Value) (Q : VK), Inv X pins σ H s -> Vals xs us -> r xs H Q ->
    wpAny (model X.prog X.w) X.A (call f us) (EP X pins σ Q) X.xe s
def TruR (X : Cx) (r : V -> Hp -> (Bool -> Hp -> Prop) -> Prop) : Prop :=
  ∀ (pins : List (Addr × Obj)) (s : Shared) (σ : St) (H : Hp) (x : V) (v : Value) (Q : Bool -> Hp -> Prop), Inv X pins σ H s -> RelV x v -> r x H Q ->
    wpAny (model X.prog X.w) X.A (truthy v) (TP X pins σ Q) X.xe s
def tOp (r : R2) (ta tb : TE) : TE := fun σ H Q => ta σ H fun x H1 => tb σ H1 fun y H2 => r x y H2 Q
def tUn (r : V -> Hp -> VK -> Prop) (ta : TE) : TE := fun σ H Q => ta σ H fun x H1 => r x H1 Q
def rI (C : Int -> Int -> Prop) (g : Int -> Int -> V) : R2 := fun x y H Q => ∃ i j, x = .int i /\ y = .int j /\ C i j /\ Q (g i j) H
def rI0 (g : Int -> Int -> V) : R2 := fun x y H Q => ∃ i j, x = .int i /\ y = .int j /\ Q (g i j) H
def rU (g : Int -> V) : V -> Hp -> VK -> Prop := fun x H Q => ∃ i, x = .int i /\ Q (g i) H
section
variable {X : Cx} {a b c : Expr} {ta tb tc : TE} {pos : Pos}
theorem binT (ha : PE X a ta) (hb : PE X b tb) {pins : List (Addr × Obj)} {s : Shared} {σ : St} {H : Hp} {R : V -> V -> Hp -> Prop} (I : Inv X pins σ H s)
    (h : ta σ H fun x H1 => tb σ H1 fun y H2 => R x y H2) {Q : Value -> Shared -> Prop} {f : Value -> Value -> Sem Value}
    (hf : ∀ v u s2 x y H2, Inv X pins σ H2 s2 -> RelV x v -> RelV y u -> R x y H2 -> wpAny (model X.prog X.w) X.A (f v u) Q X.xe s2) :
    wpAny (model X.prog X.w) X.A (eval a X.env) (fun v s₁ => wpAny (model X.prog X.w) X.A (eval b X.env) (fun u s₂ => wpAny (model X.prog X.w) X.A (f v u) Q X.xe s₂) X.xe s₁) X.xe s := by
  refine thn (ha pins s σ H _ I h) fun v s1 ⟨x, H1, I1, r1, q1⟩ => ?_
  refine thn (hb pins s1 σ H1 _ I1 q1) fun u s2 ⟨y, H2, I2, r2, q2⟩ => ?_
  exact hf v u s2 x y H2 I2 r1 r2 q2
theorem pe_op {op : Operator} {r : R2} (ho : OpR X (binaryOp op) r) (ha : PE X a ta) (hb : PE X b tb) : PE X (.BinOp a op b pos) (tOp r ta tb) := by
  intro pins s σ H Q I h
  exact wpAny_BinOp (binT ha hb I h fun v u s2 x y H2 I2 rx ry q => ho pins s2 σ H2 x y v u Q I2 rx ry q)
theorem pe_un {op : UnaryOp} {r : V -> Hp -> VK -> Prop} (ho : UnR X (unaryOp op) r) (ha : PE X a ta) : PE X (.UnaryOp op a pos) (tUn r ta) := by
  intro pins s σ H Q I h
  exact UnaryOp_ (thn (ha pins s σ H _ I h) fun v s1 ⟨x, H1, I1, r1, q1⟩ => ho pins s1 σ H1 x v Q I1 r1 q1)
theorem opI {f : Value -> Value -> Sem Value} {C : Int -> Int -> Prop} {g : Int -> Int -> Int}
    (rule : ∀ (i j : Int) (t u : Tok) (s : Shared) (Q : Value -> Shared -> Prop) (E : Value -> Shared -> Prop), C i j -> Q (.int (g i j) s.toks) { s with toks := s.toks + 1 } -> wpAny (model X.prog X.w) X.A (f (.int i t) (.int j u)) Q E s) :
    OpR X f (rI C fun i j => .int (g i j)) := by
  intro pins s σ H x y v u Q I rx ry h
  obtain ⟨i, j, rfl, rfl, hc, q⟩ := h
  obtain ⟨t, rfl⟩ := rx
  obtain ⟨t', rfl⟩ := ry
  exact rule i j t t' s _ _ hc ⟨.int (g i j), H, I.tok _, ⟨_, rfl⟩, q⟩
theorem opI0 {f : Value -> Value -> Sem Value} {g : Int -> Int -> Int}
    (rule : ∀ (i j : Int) (t u : Tok) (s : Shared) (Q : Value -> Shared -> Prop) (E : Value -> Shared -> Prop), Q (.int (g i j) s.toks) { s with toks := s.toks + 1 } -> wpAny (model X.prog X.w) X.A (f (.int i t) (.int j u)) Q E s) :
    OpR X f (rI0 fun i j => .int (g i j)) := by
  intro pins s σ H x y v u Q I rx ry h
  obtain ⟨i, j, rfl, rfl, q⟩ := h
  obtain ⟨t, rfl⟩ := rx
  obtain ⟨t', rfl⟩ := ry
  exact rule i j t t' s _ _ ⟨.int (g i j), H, I.tok _, ⟨_, rfl⟩, q⟩
theorem opB0 {f : Value -> Value -> Sem Value} {g : Int -> Int -> Bool}
    (rule : ∀ (i j : Int) (t u : Tok) (s : Shared) (Q : Value -> Shared -> Prop) (E : Value -> Shared -> Prop), Q (.bool (g i j)) s -> wpAny (model X.prog X.w) X.A (f (.int i t) (.int j u)) Q E s) :
    OpR X f (rI0 fun i j => .bl (g i j)) := by
  intro pins s σ H x y v u Q I rx ry h
  obtain ⟨i, j, rfl, rfl, q⟩ := h
  obtain ⟨t, rfl⟩ := rx
  obtain ⟨t', rfl⟩ := ry
  exact rule i j t t' s _ _ ⟨.bl (g i j), H, I, rfl, q⟩
def CDiv (i j : Int) : Prop := 0 < j /\ j < 1073741824
def CDivN (i j : Int) : Prop := j ≠ 0 /\ j.natAbs < 1073741824
def CPow (i j : Int) : Prop := 0 <= j /\ j <= 1000000 /\ i.natAbs < 2 ^ 64
def CMul (i j : Int) : Prop := (-(2 ^ 64) < i /\ i < 2 ^ 64) \/ (-(2 ^ 64) < j /\ j < 2 ^ 64)
theorem two_pow_nn (k : Nat) : (0 : Int) <= 2 ^ k := by
  rw [two_pow_cast]
  exact Int.natCast_nonneg _
theorem op_add : OpR X (binaryOp .Add) (rI0 fun i j => .int (i + j)) := opI0 fun _ _ _ _ _ _ _ q => add_int q
theorem op_sub : OpR X (binaryOp .Sub) (rI0 fun i j => .int (i - j)) := opI0 fun _ _ _ _ _ _ _ q => sub_int q
theorem op_fdiv : OpR X (binaryOp .FloorDiv) (rI CDiv fun i j => .int (i / j)) := opI fun i j _ _ _ _ _ hc q => by
  have h1 : (0 : Int) < j := hc.1
  have h2 : j < 1073741824 := hc.2
  exact floordiv_int (by lia) (by rw [Int.fdiv_eq_ediv_of_nonneg i (by lia)]; exact q) (.inl (PyProof.noPylong_small (by lia)))
theorem op_mod : OpR X (binaryOp .Mod) (rI (fun _ j => 0 < j) fun i j => .int (i % j)) := opI fun i j _ _ _ _ _ hc q => by
  have h1 : (0 : Int) < j := hc
  exact mod_int' (by lia) (by rw [Int.fmod_eq_emod_of_nonneg i (by lia)]; exact q)
theorem op_shl : OpR X (binaryOp .LShift) (rI CPow fun i j => .int (i * 2 ^ j.toNat)) := opI fun _ _ _ _ _ _ _ hc q => lshift_int_small hc.1 hc.2.1 hc.2.2 q
theorem op_shr : OpR X (binaryOp .RShift) (rI (fun _ j => 0 <= j) fun i j => .int (i / 2 ^ j.toNat)) := opI fun i j _ _ _ _ _ hc q =>
  rshift_int hc (by rw [Int.fdiv_eq_ediv_of_nonneg i (two_pow_nn _)]; exact q)
theorem op_and : OpR X (binaryOp .BitAnd) (rI0 fun i j => .int (Builtin.bitAnd i j)) := opI0 fun _ _ _ _ _ _ _ q => and_int q
theorem unI {f : Value -> Sem Value} {g : Int -> Int}
    (rule : ∀ (i : Int) (t : Tok) (s : Shared) (Q : Value -> Shared -> Prop) (E : Value -> Shared -> Prop), Q (.int (g i) s.toks) { s with toks := s.toks + 1 } -> wpAny (model X.prog X.w) X.A (f (.int i t)) Q E s) :
    UnR X f (rU fun i => .int (g i)) := by
  intro pins s σ H x v Q I rx h
  obtain ⟨i, rfl, q⟩ := h
  obtain ⟨t, rfl⟩ := rx
  exact rule i t s _ _ ⟨.int (g i), H, I.tok _, ⟨_, rfl⟩, q⟩
theorem un_neg : UnR X (unaryOp .USub) (rU fun i => .int (-i)) := unI fun _ _ _ _ _ q => neg_int q
end
def scal : V -> V -> Bool
  | .non, .non => true | .non, .int _ => true | .int _, .non => true | .non, .bl _ => true | .bl _, .non => true | .non, .str _ => true | .str _, .non => true
  | .int _, .int _ => true | .bl _, .bl _ => true | .str _, .str _ => true | .byt _, .byt _ => true
  | .int _, .str _ => true | .str _, .int _ => true | .bl _, .str _ => true | .str _, .bl _ => true
  | _, _ => false
def rEq : R2 := fun x y H Q => scal x y = true /\ Q (.bl (decide (x = y))) H
def rNe : R2 := fun x y H Q => scal x y = true /\ Q (.bl (!decide (x = y))) H
theorem dec_int {i j : Int} : decide (V.int i = V.int j) = (i == j) := by
  rw [Bool.eq_iff_iff]
  simp
theorem dec_bl {i j : Bool} : decide (V.bl i = V.bl j) = (i == j) := by
  rw [Bool.eq_iff_iff]
  simp
theorem dec_str {i j : Str} : decide (V.str i = V.str j) = (i == j) := by
  rw [Bool.eq_iff_iff]
  simp
theorem dec_byt {i j : Array UInt8} : decide (V.byt i = V.byt j) = (i.toList == j.toList) := by
  rw [Bool.eq_iff_iff]
  cases i
  cases j
  simp
section
variable {X : Cx} {a b c : Expr} {ta tb tc : TE} {pos : Pos}
theorem fin_bl {pins : List (Addr × Obj)} {σ : St} {H : Hp} {s : Shared} {Q : VK} {k k' : Bool} (I : Inv X pins σ H s) (q : Q (.bl k) H) (e : k = k') : EP X pins σ Q (.bool k') s := by
  subst e
  exact ⟨.bl k, H, I, rfl, q⟩
theorem op_eq : OpR X (compareOp .Eq) rEq := by
  intro pins s σ H x y v u Q I rx ry h
  obtain ⟨hs, q⟩ := h
  cases x with
  | non =>
    cases rx
    cases y with
    | non => cases ry; exact PySem.EqNone.eq_none_none (fin_bl I q (by simp))
    | bl j => cases ry; exact PySem.EqNone.eq_none_bool (fin_bl I q (by simp))
    | int j => obtain ⟨t', rfl⟩ := ry; exact PySem.EqNone.eq_none_int (fin_bl I q (by simp))
    | str j => obtain ⟨t', rfl⟩ := ry; exact PySem.EqNone.eq_none_str (fin_bl I q (by simp))
    | _ => exact absurd (show false = true from hs) Bool.false_ne_true
  | bl i =>
    cases rx
    cases y with
    | non => cases ry; exact PySem.EqNone.eq_bool_none (fin_bl I q (by simp))
    | bl j => cases ry; exact eq_bool (fin_bl I q dec_bl)
    | str j => obtain ⟨t', rfl⟩ := ry; exact PySem.EqMixed.eq_bool_str (fin_bl I q (by simp))
    | _ => exact absurd (show false = true from hs) Bool.false_ne_true
  | int i =>
    obtain ⟨t, rfl⟩ := rx
    cases y with
    | non => cases ry; exact PySem.EqNone.eq_int_none (fin_bl I q (by simp))
    | int j => obtain ⟨t', rfl⟩ := ry; exact eq_int (fin_bl I q dec_int)
    | str j => obtain ⟨t', rfl⟩ := ry; exact PySem.EqMixed.eq_int_str (fin_bl I q (by simp))
    | _ => exact absurd (show false = true from hs) Bool.false_ne_true
  | str i =>
    obtain ⟨t, rfl⟩ := rx
    cases y with
    | non => cases ry; exact PySem.EqNone.eq_str_none (fin_bl I q (by simp))
    | bl j => cases ry; exact PySem.EqMixed.eq_str_bool (fin_bl I q (by simp))
    | int j => obtain ⟨t', rfl⟩ := ry; exact PySem.EqMixed.eq_str_int (fin_bl I q (by simp))
    | str j => obtain ⟨t', rfl⟩ := ry; exact eq_str (fin_bl I q dec_str)
    | _ => exact absurd (show false = true from hs) Bool.false_ne_true
  | byt i =>
    obtain ⟨t, rfl⟩ := rx
    cases y with
    | byt j => obtain ⟨t', rfl⟩ := ry; exact PySem.W.eq_bytes (fin_bl I q dec_byt)
    | _ => exact absurd (show false = true from hs) Bool.false_ne_true
  | _ => cases y <;> exact absurd (show false = true from hs) Bool.false_ne_true
theorem op_ne : OpR X (compareOp .NotEq) rNe := by
  intro pins s σ H x y v u Q I rx ry h
  obtain ⟨hs, q⟩ := h
  cases x with
  | non =>
    cases rx
    cases y with
    | non => cases ry; exact PySem.EqNone.ne_none_none (fin_bl I q (by simp))
    | bl j => cases ry; exact PySem.EqNone.ne_none_bool (fin_bl I q (by simp))
    | int j => obtain ⟨t', rfl⟩ := ry; exact PySem.EqNone.ne_none_int (fin_bl I q (by simp))
    | str j => obtain ⟨t', rfl⟩ := ry; exact PySem.EqNone.ne_none_str (fin_bl I q (by simp))
    | _ => exact absurd (show false = true from hs) Bool.false_ne_true
  | bl i =>
    cases rx
    cases y with
    | non => cases ry; exact PySem.EqNone.ne_bool_none (fin_bl I q (by simp))
    | bl j => cases ry; exact ne_bool (fin_bl I q (congrArg not dec_bl))
    | str j => obtain ⟨t', rfl⟩ := ry; exact PySem.EqMixed.ne_bool_str (fin_bl I q (by simp))
    | _ => exact absurd (show false = true from hs) Bool.false_ne_true
  | int i =>
    obtain ⟨t, rfl⟩ := rx
    cases y with
    | non => cases ry; exact PySem.EqNone.ne_int_none (fin_bl I q (by simp))
    | int j => obtain ⟨t', rfl⟩ := ry; exact ne_int (fin_bl I q (congrArg not dec_int))
    | str j => obtain ⟨t', rfl⟩ := ry; exact PySem.EqMixed.ne_int_str (fin_bl I q (by simp))
    | _ => exact absurd (show false = true from hs) Bool.false_ne_true
  | str i =>
    obtain ⟨t, rfl⟩ := rx
    cases y with
    | non => cases ry; exact PySem.EqNone.ne_str_none (fin_bl I q (by simp))
    | bl j => cases ry; exact PySem.EqMixed.ne_str_bool (fin_bl I q (by simp))
    | int j => obtain ⟨t', rfl⟩ := ry; exact PySem.EqMixed.ne_str_int (fin_bl I q (by simp))
    | str j => obtain ⟨t', rfl⟩ := ry; exact ne_str (fin_bl I q (congrArg not dec_str))
    | _ => exact absurd (show false = true from hs) Bool.false_ne_true
  | byt i =>
    obtain ⟨t, rfl⟩ := rx
    cases y with
    | byt j => obtain ⟨t', rfl⟩ := ry; exact PySem.W.ne_bytes (fin_bl I q (congrArg not dec_byt))
    | _ => exact absurd (show false = true from hs) Bool.false_ne_true
  | _ => cases y <;> exact absurd (show false = true from hs) Bool.false_ne_true
theorem op_lt : OpR X (compareOp .Lt) (rI0 fun i j => .bl (decide (i < j))) := opB0 fun _ _ _ _ _ _ _ q => lt_int q
theorem op_le : OpR X (compareOp .LtE) (rI0 fun i j => .bl (decide (i <= j))) := opB0 fun _ _ _ _ _ _ _ q => le_int q
def isObj : HO -> Bool
  | .lst _ => true
  | .ins _ _ _ => true
  | _ => false
theorem nomark (b : Expr) {op : CmpOp} (h : op ≠ .In := by decide) (h2 : op ≠ .NotIn := by decide) : behindInMarks op b = false := by
  have e1 : (op == CmpOp.In) = false := by cases op <;> first | rfl | exact absurd rfl h
  have e2 : (op == CmpOp.NotIn) = false := by cases op <;> first | rfl | exact absurd rfl h2
  cases b <;> simp [behindInMarks, e1, e2]
theorem pe_cmpR {op : CmpOp} {r : R2} (ho : OpR X (compareOp op) r) (ha : PE X a ta) (hb : PE X b tb) (hm : behindInMarks op b = false) : PE X (.Compare a [op] [b] pos) (tOp r ta tb) := by
  intro pins s σ H Q I h
  exact wpAny_Compare1 (binT ha hb I h fun v u s2 x y H2 I2 rx ry q => ho pins s2 σ H2 x y v u Q I2 rx ry q) hm
def tTest (t : TE) : TT := fun σ H Q => t σ H fun x H' => ∃ k, x = .bl k /\ Q k H'
theorem pt_cmpR {op : CmpOp} {r : R2} (ho : OpR X (compareOp op) r) (ha : PE X a ta) (hb : PE X b tb) (hm : behindInMarks op b = false) : PT X (.Compare a [op] [b] pos) (tTest (tOp r ta tb)) := by
  intro pins s σ H Q I h
  refine wpAny_isTrue_Compare1 (thn (ha pins s σ H _ I h) fun v s1 ⟨x, H1, I1, r1, q1⟩ => thn (hb pins s1 σ H1 _ I1 q1) fun u s2 ⟨y, H2, I2, r2, q2⟩ =>
    thn (ho pins s2 σ H2 x y v u _ I2 r1 r2 q2) fun c s3 ⟨z, H3, I3, r3, k, e, q3⟩ => ?_) hm
  subst e
  cases r3
  exact wpAny_truthy_bool ⟨H3, I3, q3⟩
def tChain (r r' : R2) (ta tb tc : TE) : TE := fun σ H Q => ta σ H fun x H1 => tb σ H1 fun y H2 => r x y H2 fun z H3 => ∃ k, z = .bl k /\
  (if k = true then tc σ H3 fun w' H4 => r' y w' H4 Q else Q (.bl false) H3)
theorem pe_chain {op op' : CmpOp} {r r' : R2} (ho : OpR X (compareOp op) r) (ho' : OpR X (compareOp op') r') (ha : PE X a ta) (hb : PE X b tb) (hc : PE X c tc)
    (hm : lastMarks [op, op'] [b, c] = false := by with_unfolding_all rfl) : PE X (.Compare a [op, op'] [b, c] pos) (tChain r r' ta tb tc) := by
  intro pins s σ H Q I h
  refine Compare_chain (thn (ha pins s σ H _ I h) fun v s1 ⟨x, H1, I1, r1, q1⟩ => chain_link (thn (hb pins s1 σ H1 _ I1 q1) fun u s2 ⟨y, H2, I2, r2, q2⟩ =>
    thn (ho pins s2 σ H2 x y v u _ I2 r1 r2 q2) fun d s3 ⟨z, H3, I3, r3, k, e, q3⟩ => ?_)) hm
  subst e
  cases r3
  refine wpAny_truthy_bool ?_
  cases k with
  | false => exact ite_ff ⟨.bl false, H3, I3, rfl, q3⟩
  | true => exact ite_tt (chain_last (thn (hc pins s3 σ H3 _ I3 q3) fun w' s4 ⟨z', H4, I4, r4, q4⟩ => ho' pins s4 σ H4 y z' u w' Q I4 r2 r4 q4))
def TruV (K : PySem.W.Frag) (x : V) (H : Hp) (k : Bool) : Prop :=
  match x with
  | .non => k = false
  | .bl b => k = b
  | .int i => k = (i != 0)
  | .str y => y.length <= sizeLine /\ k = ((y.length : Int) != 0)
  | .byt y => y.size <= sizeLine /\ k = ((y.size : Int) != 0)
  | .ref p => (∃ xs, SqL K H p xs /\ k = !xs.isEmpty) \/ (∃ xs, SqT K H p xs /\ k = !xs.isEmpty) \/ ∃ kvs, H p = some (.dK kvs) /\ k = !kvs.isEmpty
  | _ => False
theorem line63 : (sizeLine : Nat) < 2 ^ 63 := by rw [sizeLine_eq]; decide
def PlainIxT (b : Expr) : Prop := ∀ o i, subscripted b false o i = operate [o, i] (getItem o i)
theorem vals1 {x : V} {us : List Value} (r : Vals [x] us) : ∃ u, us = [u] /\ RelV x u := by
  cases r with
  | cons r1 r2 => cases r2; exact ⟨_, rfl, r1⟩
theorem vals2 {x y : V} {us : List Value} (r : Vals [x, y] us) : ∃ u w', us = [u, w'] /\ RelV x u /\ RelV y w' := by
  cases r with
  | cons r1 r2 =>
    cases r2 with
    | cons r3 r4 => cases r4; exact ⟨_, _, rfl, r1, r3⟩
theorem call_max2 (hc : X.calm = true) : CallR X (.builtin "max") (fun xs H Q => ∃ i j, xs = [.int i, .int j] /\ Q (.int (if j > i then j else i)) H) := by
  intro pins s σ H xs us Q I r h
  obtain ⟨i, j, rfl, q⟩ := h
  obtain ⟨u, w', rfl, ⟨t, rfl⟩, ⟨t', rfl⟩⟩ := vals2 r
  refine max_two_ints (I.ok.hd hc) fun h' tk k => ⟨_, H, I.kept k, ?_, q⟩
  by_cases hj : j > i
  · rw [if_pos hj, if_pos hj]; exact ⟨_, rfl⟩
  · rw [if_neg hj, if_neg hj]; exact ⟨_, rfl⟩
theorem call_min2 (hc : X.calm = true) : CallR X (.builtin "min") (fun xs H Q => ∃ i j, xs = [.int i, .int j] /\ Q (.int (if j < i then j else i)) H) := by
  intro pins s σ H xs us Q I r h
  obtain ⟨i, j, rfl, q⟩ := h
  obtain ⟨u, w', rfl, ⟨t, rfl⟩, ⟨t', rfl⟩⟩ := vals2 r
  refine min_two_ints (I.ok.hd hc) fun h' tk k => ⟨_, H, I.kept k, ?_, q⟩
  by_cases hj : j < i
  · rw [if_pos hj, if_pos hj]; exact ⟨_, rfl⟩
  · rw [if_neg hj, if_neg hj]; exact ⟨_, rfl⟩
theorem call_int1 : CallR X (.type "int") (fun xs H Q => (∃ i, xs = [.int i] /\ Q (.int i) H) \/ ∃ k, xs = [.bl k] /\ Q (.int (if k then 1 else 0)) H) := by
  intro pins s σ H xs us Q I r h
  rcases h with ⟨i, rfl, q⟩ | ⟨k, rfl, q⟩
  · obtain ⟨u, rfl, t, rfl⟩ := vals1 r
    exact call_int_int ⟨.int i, H, I, ⟨_, rfl⟩, q⟩
  · obtain ⟨u, rfl, r1⟩ := vals1 r
    cases r1
    exact call_int_bool ⟨.int (if k then 1 else 0), H, I.tok _, ⟨_, rfl⟩, q⟩
def LenV (K : PySem.W.Frag) (x : V) (H : Hp) (n : Nat) : Prop :=
  match x with
  | .str y => y.length <= sizeLine /\ n = y.length
  | .byt y => y.size <= sizeLine /\ n = y.size
  | .ref p => (∃ xs, SqL K H p xs /\ n = xs.length) \/ ∃ xs, SqT K H p xs /\ n = xs.length
  | _ => False
end
structure ObjM (h : Heap) (x dx C : Addr) (mA : Str -> Option Value) : Prop where
  obj : h.get? x = some (PySem.W.instObj C dx)
  ns : h.Ns1 dx mA
  ne : dx ≠ x
theorem lookIn_ns {h : Heap} {dx : Addr} {mA : Str -> Option Value} (n : h.Ns1 dx mA) : ∃ od, h.get? dx = some od /\ ∀ name, PySem.W.lookIn name od = some (mA name) := by
  obtain ⟨o, es, ep, ho, hd, hk, _, hm⟩ := n
  refine ⟨o, ho, fun name => ?_⟩
  have e := hm name
  unfold nsFind findBy at e
  rw [<- Array.find?_toList] at e
  unfold PySem.W.lookIn
  rw [hd]
  dsimp only
  split
  · rename_i y q
    rw [q] at e
    exact congrArg some e
  · rename_i q
    rw [q] at e
    have a : es.toList.any (·.refKey) = false := by
      rw [List.any_eq_false]
      intro y hy
      obtain ⟨z, t, hkey⟩ := hk y (Array.mem_toList_iff.mp hy)
      simp [DictEntry.refKey, hkey]
    have a' : ¬ es.toList.any (·.refKey) = true := by rw [a]; exact Bool.false_ne_true
    rw [if_neg a']
    exact congrArg some e
theorem ObjM.look {h : Heap} {x dx C : Addr} {mA : Str -> Option Value} (I : ObjM h x dx C mA) : ∃ od, PySem.W.InstAt h x (PySem.W.instObj C dx) C (some od) /\ ∀ name, PySem.W.lookIn name od = some (mA name) :=
  let ⟨od, ho, hl⟩ := lookIn_ns I.ns
  ⟨od, ⟨I.obj, rfl, rfl, ho⟩, hl⟩
section
variable {prog : Program} {w : World} {A : Around} {E : Value -> Shared -> Prop} {s : Shared} {K : PySem.W.Frag} {x dx C f : Addr} {mA : Str -> Option Value} {name : Str} {v : Value}
end
def putF (f : Str) (v : V) : List (Str × V) -> List (Str × V)
  | [] => [(f, v)]
  | (g, x) :: r => if g = f then (g, v) :: r else (g, x) :: putF f v r
section
variable {P : Program} {w : World} {H H' : Hp} {h h' : Heap} {a C dx : Addr} {fs fs' : List (Str × V)}
theorem ins_get (hok : HOk P w H h) (e : H a = some (.ins C dx fs)) : ∃ mA, ObjM h a dx C mA /\ (∀ f, RelO (fs.lookup f) (mA f)) /\ PySem.Within mA (fs.map (·.1)) /\ fs.length <= 1000 /\ H dx = some (.own a) := by
  obtain ⟨d, z, ne, ob, mA, n, r, q⟩ := (show ObjOk P w H h a (.ins C dx fs) from hok a _ e)
  exact ⟨mA, ⟨ob, n, ne⟩, r, q, z, d⟩
end
structure Cls (K : PySem.W.Frag) (C : Addr) : Prop where
  pg : PySem.W.plainGet K C Str.empty = true
  hd : PySem.W.hasDictIn K C = true
  po : PySem.W.plainOver K C = true
  sa : PySem.W.findIn K (.ref C) "__setattr__" = some (some (.builtin "object.__setattr__"))
theorem Cls.get {K : PySem.W.Frag} {C : Addr} (c : Cls K C) (f : Str) : PySem.W.plainGet K C f = true := c.pg
def NoAttr (K : PySem.W.Frag) (C : Addr) (f : Str) : Prop := PySem.W.findIn K (.ref C) f = some none
structure Con (K : PySem.W.Frag) (C : Addr) (f : Str) (v : V) (u : Value) : Prop where
  at_ : PySem.W.findIn K (.ref C) f = some (some u)
  rel : RelV v u
  get : PySem.W.specialIn K u "__get__" = some none
  cp : PySem.W.copiedNames.contains f = false
structure Meth (K : PySem.W.Frag) (C : Addr) (m : Str) (f : Addr) : Prop where
  at_ : PySem.W.findIn K (.ref C) m = some (some (.ref f))
  fn : PySem.W.isFn K (.ref f) = true
  kp : PySem.W.keepIn K (.ref f) = true
section
variable {X : Cx} {pins : List (Addr × Obj)} {σ : St} {H : Hp} {s : Shared} {a C dx : Addr} {fs : List (Str × V)} {f : Str} {v : V} {A : Around} {E : Value -> Shared -> Prop}
end
def tFld (K : PySem.W.Frag) (ta : TE) (f : Str) : TE := fun σ H Q => ta σ H fun x H1 => ∃ a C dx fs v, x = .ref a /\ H1 a = some (.ins C dx fs) /\ Cls K C /\ NoAttr K C f /\ fs.lookup f = some v /\ Q v H1
def tCon (K : PySem.W.Frag) (ta : TE) (f : Str) : TE := fun σ H Q => ta σ H fun x H1 => ∃ a C dx fs v u, x = .ref a /\ H1 a = some (.ins C dx fs) /\ Cls K C /\ Con K C f v u /\ fs.lookup f = none /\ Q v H1
def sFld (K : PySem.W.Frag) (ta tv : TE) (f : Str) : TS := fun D σ H => tv σ H fun y H1 => ta σ H1 fun x H2 => ∃ a C dx fs, x = .ref a /\ H2 a = some (.ins C dx fs) /\ Cls K C /\ NoAttr K C f /\ fs.length < 1000 /\
  D.nx σ (upd H2 a (.ins C dx (putF f y fs)))
def InOp (X : Cx) (op : Operator) (rd : V -> V -> Hp -> VK -> Prop) : Prop :=
  ∀ (pins : List (Addr × Obj)) (s : Shared) (σ : St) (H : Hp) (x y : V) (u v : Value) (Q : VK), Inv X pins σ H s -> RelV x u -> RelV y v -> rd x y H Q -> wpAny (model X.prog X.w) X.A (inplaceOp op u v) (EP X pins σ Q) X.xe s
def sFldAug (K : PySem.W.Frag) (ta tv : TE) (rd : V -> V -> Hp -> VK -> Prop) (f : Str) : TS := fun D σ H => ta σ H fun x H1 => ∃ a C dx fs v, x = .ref a /\ H1 a = some (.ins C dx fs) /\ Cls K C /\ NoAttr K C f /\ fs.lookup f = some v /\
  tv σ H1 fun y H2 => rd v y H2 fun z H3 => ∃ dx' fs', H3 a = some (.ins C dx' fs') /\ fs'.length < 1000 /\ D.nx σ (upd H3 a (.ins C dx' (putF f z fs')))
section
variable {X : Cx} {o e value : Expr} {f : Str} {pos pos' tpos : Pos} {ta tv : TE}
def rAdd : V -> V -> Hp -> VK -> Prop := fun x y H Q => ∃ i j, x = .int i /\ y = .int j /\ Q (.int (i + j)) H
def rSub : V -> V -> Hp -> VK -> Prop := fun x y H Q => ∃ i j, x = .int i /\ y = .int j /\ Q (.int (i - j)) H
end
section
variable {X : Cx} {pins : List (Addr × Obj)} {σ : St} {H : Hp} {s : Shared} {A : Around} {E : Value -> Shared -> Prop} {Q : Value -> Shared -> Prop} {c : Value} {b : Bool}
inductive TyOf (K : PySem.W.Frag) (H : Hp) : V -> Value -> Prop where
  | non : TyOf K H .non (.type "NoneType")
  | bl (x : Bool) : TyOf K H (.bl x) (.type "bool")
  | int (i : Int) : TyOf K H (.int i) (.type "int")
  | str (x : Str) : TyOf K H (.str x) (.type "str")
  | flt (x : UInt64) : TyOf K H (.flt x) (.type "float")
  | lst {a : Addr} {xs : List V} (e : H a = some (.lst xs)) : TyOf K H (.ref a) (.type "list")
  | frz {a : Addr} {o : Obj} {xs : List V} (e : H a = some (.frz o (.lst xs))) : TyOf K H (.ref a) (.type "list")
  | tup {a : Addr} {xs : List V} (e : H a = some (.tup xs)) : TyOf K H (.ref a) (.type "tuple")
  | dK {a : Addr} {kvs : List (Key × V)} (e : H a = some (.dK kvs)) : TyOf K H (.ref a) (.type "dict")
  | dT {a : Addr} {kvs : List (List Key × V)} (e : H a = some (.dT kvs)) : TyOf K H (.ref a) (.type "dict")
  | ins {a C dx : Addr} {fs : List (Str × V)} (e : H a = some (.ins C dx fs)) (cl : Cls K C) (ha : PySem.W.findIn K (.ref C) "__class__" = some (some (.builtin "object.__class__")))
      (hn : PySem.W.specialIn K (.builtin "object.__class__") "__get__" = some (some (.builtin "getset_descriptor.__get__"))) (htk : PySem.W.takesIn K (.builtin "object.__class__") = some true)
      (hm : PySem.W.mroIn K C (.type "object") = some true) : TyOf K H (.ref a) (.ref C)
theorem isinst_ok {x : V} {u t : Value} (I : Inv X pins σ H s) (rx : RelV x u) (ty : TyOf X.K H x t) (e : PySem.W.kitOne X.K t c = some b) (h : ∀ tk, Q (.bool b) { s with toks := tk }) :
    wpAny (model X.prog X.w) A (call (.builtin "isinstance") [u, c]) Q E s := by
  cases ty with
  | non => cases (show u = Value.none from rx); exact PySem.W.kia_one PySem.W.kitx_none I.kIn True.intro e (fun z => nomatch z) h
  | bl y => cases (show u = Value.bool y from rx); exact PySem.W.kia_one PySem.W.kitx_bool I.kIn True.intro e (fun z => nomatch z) h
  | int i => obtain ⟨t, q⟩ := (show ∃ t, u = Value.int i t from rx); cases q; exact PySem.W.kia_one PySem.W.kitx_int I.kIn True.intro e (fun z => nomatch z) h
  | str y => obtain ⟨t, q⟩ := (show ∃ t, u = Value.str y t from rx); cases q; exact PySem.W.kia_one PySem.W.kitx_str I.kIn True.intro e (fun z => nomatch z) h
  | flt y => obtain ⟨t, q⟩ := (show ∃ t, u = Value.float y t from rx); cases q; exact PySem.W.kia_one PySem.W.kitx_float I.kIn True.intro e (fun z => nomatch z) h
  | @lst a xs ea =>
    cases (show u = Value.ref a from rx)
    obtain ⟨_, _, n, _, h1⟩ := (show ObjOk X.prog X.w H s.heap a (.lst xs) from I.hok a _ ea)
    exact PySem.W.kia_one PySem.W.kitx_list I.kIn ⟨_, h1, rfl⟩ e (fun z => nomatch z) h
  | @frz a ob xs ea =>
    cases (show u = Value.ref a from rx)
    obtain ⟨_, _, _, n, _, h1⟩ := (show ObjOk X.prog X.w H s.heap a (.frz ob (.lst xs)) from I.hok a _ ea)
    exact PySem.W.kia_one PySem.W.kitx_list I.kIn ⟨_, h1, rfl⟩ e (fun z => nomatch z) h
  | @tup a xs ea =>
    cases (show u = Value.ref a from rx)
    obtain ⟨_, _, _, p⟩ := (show ObjOk X.prog X.w H s.heap a (.tup xs) from I.hok a _ ea)
    obtain ⟨o, h1, h2, _⟩ := p
    exact PySem.W.kia_one PySem.W.kitx_tuple I.kIn ⟨o, h1, h2⟩ e (fun z => nomatch z) h
  | @dK a kvs ea =>
    cases (show u = Value.ref a from rx)
    obtain ⟨_, _, vs, _, p⟩ := (show ObjOk X.prog X.w H s.heap a (.dK kvs) from I.hok a _ ea)
    obtain ⟨o, es, ep, h1, h2, _⟩ := p
    exact PySem.W.kia_one PySem.W.kitx_dict I.kIn ⟨o, h1, h2.1⟩ e (fun z => nomatch z) h
  | @dT a kvs ea =>
    cases (show u = Value.ref a from rx)
    obtain ⟨_, _, xs, _, o, es, ep, h1, h2, _⟩ := (show ObjOk X.prog X.w H s.heap a (.dT kvs) from I.hok a _ ea)
    exact PySem.W.kia_one PySem.W.kitx_dict I.kIn ⟨o, h1, h2.1⟩ e (fun z => nomatch z) h
  | @ins a C dx fs ea cl ha hn htk hm =>
    cases (show u = Value.ref a from rx)
    obtain ⟨mA, O, _⟩ := ins_get I.hok ea
    obtain ⟨od, J, _⟩ := O.look
    exact PySem.W.kia_one (PySem.W.kitx_own (cl.get _) cl.hd ha hn htk hm) I.kIn J e (fun z => nomatch z) h
end
structure Room (k : Nat) (A : Around) : Prop where
  hd : A.handled = none
  dp : A.depth + 3 * k + 5 < recursionLimit
  un : A.units + 16 * k + 200 < cLine
theorem Room.mono {j k : Nat} {A : Around} (r : Room k A) (h : j <= k) : Room j A := ⟨r.hd, by have := r.dp; lia, by have := r.un; lia⟩
theorem Room.deeper {k : Nat} {A : Around} (r : Room (k + 1) A) (env : Env) : Room k (A.deeper env) :=
  ⟨r.hd, by have := r.dp; show A.depth + 1 + 3 * k + 5 < _; lia, by have := r.un; show A.units + 3 + 16 * k + 200 < _; lia⟩
theorem Room.depth {k : Nat} {A : Around} (r : Room k A) : A.depth < recursionLimit := by have := r.dp; lia
def tNil : TA := fun _ H Q => Q [] H
def tCons (ta : TE) (tr : TA) : TA := fun σ H Q => ta σ H fun x H1 => tr σ H1 fun xs H2 => Q (x :: xs) H2
section
variable {X : Cx} {e : Expr} {es : List Expr} {te : TE} {t : TA} {pos : Pos}
theorem pa_nil : PA X [] tNil := fun _ _ _ _ H Q I h => Calls.spliced_nil ⟨[], H, I, .nil, h⟩
theorem pa_cons (ha : PE X e te) (hr : PA X es t) (hs : starEach (e :: es) X.env = (false, eval e X.env) :: starEach es X.env := by rfl) : PA X (e :: es) (tCons te t) := by
  intro pos pins s σ H Q I h
  rw [hs]
  show wpAny _ _ (spliced ((false, eval e X.env) :: backTo pos (starEach es X.env))) _ _ s
  refine Calls.spliced_cons (thn (ha pins s σ H _ I h) fun u s1 ⟨x, H1, I1, r1, q1⟩ => ?_)
  exact thn (hr pos pins s1 σ H1 _ I1 q1) fun us s2 ⟨xs, H2, I2, r2, q2⟩ => ⟨x :: xs, H2, I2, .cons r1 r2, q2⟩
def tTup (t : TA) : TE := fun σ H Q => t σ H fun xs H1 => xs.length <= sizeLine /\ ∀ p, H1 p = none -> Q (.ref p) (upd H1 p (.tup xs))
def tLst (t : TA) : TE := fun σ H Q => t σ H fun xs H1 => xs.length <= sizeLine /\ ∀ p, H1 p = none -> Q (.ref p) (upd H1 p (.lst xs))
theorem pe_tup {x1} (h : PA X es t) : PE X (.Tuple es x1 pos) (tTup t) := by
  intro pins s σ H Q I hq
  refine wpAny_Tuple_spliced (thn (h pos pins s σ H _ I hq) fun us s1 ⟨xs, H1, I1, r, z, q⟩ => ⟨by rw [<- r.length]; exact z, ?_⟩)
  have hf : H1 s1.heap.objs.size = none := I1.hok.fresh (Nat.le_refl _)
  refine ⟨.ref s1.heap.objs.size, upd H1 s1.heap.objs.size (.tup xs), I1.laid (t' := s1.toks) (fun b u e => Heap.get?_push_of_some _ e) (Nat.le_refl _) ?_, rfl, q _ hf⟩
  exact ⟨z, us, r, ⟨_, Heap.get?_push_size _ rfl, rfl, _, rfl⟩⟩
theorem pe_lst (h : PA X es t) : PE X (.List es pos) (tLst t) := by
  intro pins s σ H Q I hq
  refine wpAny_List_spliced (thn (h pos pins s σ H _ I hq) fun us s1 ⟨xs, H1, I1, r, z, q⟩ => ⟨by rw [<- r.length]; exact z, ?_⟩)
  have hf : H1 s1.heap.objs.size = none := I1.hok.fresh (Nat.le_refl _)
  refine ⟨.ref s1.heap.objs.size, upd H1 s1.heap.objs.size (.lst xs), I1.laid (t' := s1.toks) (fun b u e => Heap.get?_push_of_some _ e) (Nat.le_refl _) ?_, rfl, q _ hf⟩
  exact ⟨z, us, 0, r, Heap.get?_push_size _ rfl⟩
end
abbrev Sp := List V -> Hp -> VK -> XK -> Prop
abbrev CXT := List Env -> Hp -> Shared -> XK -> Value -> Shared -> Prop
structure Env0 (P : Program) (w : World) (K : PySem.W.Frag) (mg : Str -> Option Value) (base : Heap) (A : Around) (outer : List Env) (s : Shared) (H : Hp) : Prop where
  frames : A.frames = some outer
  mod : Mod K mg base
  bs : ∀ b o, base.get? b = some o -> s.heap.get? b = some o /\ H b = none
  bsz : base.objs.size <= s.heap.objs.size
  funs : s.heap.FunFrames base outer
  frf : ∀ b ∈ frs outer, H b = none
  hok : HOk P w H s.heap
  bare : AllBare s.gens
def CE (outer : List Env) (P : Program) (w : World) (H : Hp) (s : Shared) (Q : VK) (u : Value) (s' : Shared) : Prop :=
  ∃ v H', s'.os = s.os /\ AllBare s'.gens /\ Un (frs outer) [] H H' s.heap s'.heap /\ HOk P w H' s'.heap /\ RelV v u /\ Q v H'
def CR (CX : CXT) (outer : List Env) (P : Program) (w : World) (H : Hp) (s : Shared) (Q : VK) (E : XK) (r : Result) (s' : Shared) : Prop :=
  match r with
  | .ok (.ret u) => CE outer P w H s Q u s'
  | .ok _ => False
  | .error e => CX outer H s E e s'
structure FnOk (P : Program) (w : World) (K : PySem.W.Frag) (mg : Str -> Option Value) (base : Heap) (CX : CXT) (k : Nat) (f : Addr) (fd : FuncData) (ps : List Str) (sp : Sp) : Prop where
  len : ∀ vs H Q E, sp vs H Q E -> vs.length = ps.length
  run : ∀ (A : Around) (outer : List Env) (s : Shared) (H : Hp) (args : Args) (us : List Value) (vs : List V) (Q : VK) (E : XK), Room k A -> Env0 P w K mg base A outer s H -> BindsTo s fd args (ps.zip us) -> Vals vs us -> sp vs H Q E ->
    codeAny (model P w) A (.call (.ref f) args) (CR CX outer P w H s Q E) s
section
variable {X : Cx} {pins : List (Addr × Obj)} {σ : St} {H : Hp} {s s' : Shared}
theorem Inv.env0 (I : Inv X pins σ H s) : Env0 X.prog X.w X.K X.mg X.base X.A X.stack s H :=
  ⟨I.ok.frames, I.ok.mod, I.bs, Nat.le_trans I.ok.bsz I.sz, I.stack, I.stkFree, I.hok, I.bare⟩
theorem Inv.after {Q : VK} {u : Value} (I : Inv X pins σ H s) (h : CE X.stack X.prog X.w H s Q u s') : EP X pins σ Q u s' := by
  obtain ⟨v, H', os, bare, un, hok, r, q⟩ := h
  obtain ⟨hh, g, d, t, os'⟩ := s'
  obtain rfl : os' = s.os := os
  exact ⟨v, H', I.call (h' := hh) (g' := g) (d' := d) (t' := t) (ch := []) un hok bare (fun b z => absurd z (by simp)), r, q⟩
end
def tCall (sp : Sp) (dvs : List V) (E : XK) (t : TA) : TE := fun σ H Q => t σ H fun vs H1 => sp (vs ++ dvs) H1 Q E
def tMeth (C : Addr) (m : Str) (sp : Sp) (dvs : List V) (E : XK) (ta : TE) (t : TA) : TE := fun σ H Q => ta σ H fun x H1 => ∃ a dx fs, x = .ref a /\ H1 a = some (.ins C dx fs) /\ fs.lookup m = none /\
  t σ H1 fun vs H2 => sp (x :: (vs ++ dvs)) H2 Q E
def tMake (C : Addr) (sp : Sp) (dvs : List V) (E : XK) (t : TA) : TE := fun σ H Q => t σ H fun vs H1 => ∀ x dx, H1 x = none -> H1 dx = none -> dx ≠ x ->
  sp (.ref x :: (vs ++ dvs)) (upd (upd H1 dx (.own x)) x (.ins C dx [])) (fun v H2 => v = .non /\ Q (.ref x) H2) E
def Binds (K : PySem.W.Frag) (fd : FuncData) (ps : List Str) (ds : List Value) : Prop :=
  ∀ (s : Shared) (us : List Value), K.In s.heap -> (us ++ ds).length = ps.length -> BindsTo s fd ⟨us, []⟩ (ps.zip (us ++ ds))
theorem Binds.all {K : PySem.W.Frag} {fd : FuncData} {ps : List Str} (h : ∀ us : List Value, us.length = ps.length -> bindArgs fd ⟨us, []⟩ = pure (ps.zip us)) : Binds K fd ps [] := fun s us _ hl => by
  rw [List.append_nil] at hl ⊢
  exact .of_eq (h us hl)
def Passes (CX : CXT) (X : Cx) (E : XK) : Prop := ∀ (pins : List (Addr × Obj)) (σ : St) (H : Hp) (s : Shared) (e : Value) (s' : Shared), Inv X pins σ H s -> CX X.stack H s E e s' -> X.xe e s'
section
variable {X : Cx} {CX : CXT} {k : Nat} {f C : Addr} {fd : FuncData} {ps : List Str} {sp : Sp} {dvs : List V} {ds : List Value} {E : XK} {x m : Str} {p pos apos : Pos} {e o : Expr} {es : List Expr} {ta : TE} {t : TA}
theorem run_fn {pins : List (Addr × Obj)} {σ : St} {H : Hp} {s : Shared} {Q : VK} {us : List Value} {vs : List V} (F : FnOk X.prog X.w X.K X.mg X.base CX k f fd ps sp) (hr : Room k X.A) (hb : Binds X.K fd ps ds) (hd : Vals dvs ds) (hx : Passes CX X E)
    (I : Inv X pins σ H s) (r : Vals vs us) (h : sp (vs ++ dvs) H Q E) : wpAny (model X.prog X.w) X.A (call (.ref f) us) (EP X pins σ Q) X.xe s := by
  have r2 : Vals (vs ++ dvs) (us ++ ds) := r.append hd
  have hl : (us ++ ds).length = ps.length := by rw [<- r2.length]; exact F.len _ _ _ _ h
  refine wpAny_call (codeAny_mono (F.run X.A X.stack s H ⟨us, []⟩ (us ++ ds) (vs ++ dvs) Q E hr I.env0 (hb s us I.kIn hl) r2 h) fun r s' hq => ?_)
  cases r with
  | error e => exact hx pins σ H s e s' I hq
  | ok fl =>
    cases fl with
    | ret u => exact I.after hq
    | next => exact False.elim hq
    | brk => exact False.elim hq
    | cont => exact False.elim hq
theorem pe_call (F : FnOk X.prog X.w X.K X.mg X.base CX k f fd ps sp) (hr : Room k X.A) (hg : Gl X x) (hm : X.mg x = some (.ref f)) (hk : PySem.W.keepIn X.K (.ref f) = true) (hb : Binds X.K fd ps ds) (hd : Vals dvs ds) (hx : Passes CX X E)
    (ha : PA X (e :: es) t) (hdb : (x == ("__debug__" : Str)) = false := by decide) (he : starEach (e :: es) X.env = (false, eval e X.env) :: starEach es X.env := by rfl) (hpl : (backTo pos (starEach es X.env)).any (·.1) = false := by rfl) :
    PE X (.Call (.Name x p) (e :: es) [] pos) (tCall sp dvs E t) := by
  intro pins s σ H Q I h
  refine wpAny_Call_Name_kw (ld_glob I hg hm ?_ hdb)
  refine PySem.W.callWith_K (h₀ := X.base) I.ok.mod.kin hk (thn (ha pos pins s σ H _ I h) fun us s1 ⟨vs, H1, I1, r, q⟩ => ⟨I1.kIn, ?_⟩) he hpl
  exact run_fn F hr hb hd hx I1 r q
structure Mk (K : PySem.W.Frag) (C f : Addr) : Prop where
  makes : PySem.W.makesIn K C = true
  init : PySem.W.findIn K (.ref C) "__init__" = some (some (.ref f))
  fn : PySem.W.isFn K (.ref f) = true
  kp : PySem.W.keepIn K (.ref C) = true
end
def PK (X : Cx) (kws : List Keyword) (t : TA) : Prop :=
  ∀ (pos : Pos) (pins : List (Addr × Obj)) (s : Shared) (σ : St) (H : Hp) (Q : List V -> Hp -> Prop), Inv X pins σ H s -> t σ H Q -> wpAny (model X.prog X.w) X.A (evalAll ((backToKw pos (keywordEach kws X.env)).map (·.2))) (AP X pins σ Q) X.xe s
section
variable {X : Cx} {CX : CXT} {k : Nat} {f C : Addr} {fd : FuncData} {ps ks : List Str} {sp : Sp} {E : XK} {x m : Str} {p pos apos kpos : Pos} {e o : Expr} {es : List Expr} {kws : List Keyword} {te ta : TE} {t tk : TA} {nm : Option Str}
structure KBinds (K : PySem.W.Frag) (fd : FuncData) (ps ks : List Str) (g : List Value -> List Value -> List Value) (gV : List V -> List V -> List V) : Prop where
  to : ∀ (s : Shared) (us ws : List Value), K.In s.heap -> (g us ws).length = ps.length -> BindsTo s fd ⟨us, ks.zip ws⟩ (ps.zip (g us ws))
  rel : ∀ {vs : List V} {us : List Value} {zs : List V} {ws : List Value}, Vals vs us -> Vals zs ws -> Vals (gV vs zs) (g us ws)
def tCallK (sp : Sp) (gV : List V -> List V -> List V) (E : XK) (t tk : TA) : TE := fun σ H Q => t σ H fun vs H1 => tk σ H1 fun zs H2 => sp (gV vs zs) H2 Q E
variable {g : List Value -> List Value -> List Value} {gV : List V -> List V -> List V}
end
structure FnScope (N P : List Str) (sc : Scope) : Prop where
  kind : sc.kind = .function
  co : sc.isCoroutine = false
  gen : sc.isGenerator = false
  nd : N.Nodup
  pre : N.take P.length = P
  par : ∀ x ∈ P, sc.names.lookup x = some .local \/ sc.names.lookup x = some .cell
  nofree : ∀ y ∈ sc.names, y.2 ≠ .free
theorem bindL_out {kindOf : Str -> Option NameKind} {x : Str} : ∀ {binds : List (Str × Value)} {m : Str -> Option Value}, (∀ v, (x, v) ∉ binds) -> bindL kindOf binds m x = m x
  | [], _, _ => rfl
  | (n, v) :: r, m, h => by
    unfold bindL
    rw [bindL_out fun w hw => h w (List.mem_cons_of_mem _ hw)]
    split
    · have : x ≠ n := by rintro rfl; exact h v List.mem_cons_self
      simp [this]
    · rfl
theorem bindC_out {kindOf : Str -> Option NameKind} {x : Str} : ∀ {binds : List (Str × Value)} {m : Str -> Option Value}, (∀ v, (x, v) ∉ binds) -> bindC kindOf binds m x = m x
  | [], _, _ => rfl
  | (n, v) :: r, m, h => by
    unfold bindC
    rw [bindC_out fun w hw => h w (List.mem_cons_of_mem _ hw)]
    split
    · rfl
    · have : x ≠ n := by rintro rfl; exact h v List.mem_cons_self
      simp [this]
theorem bindL_get {kindOf : Str -> Option NameKind} {x : Str} {v : Value} : ∀ {P : List Str} {vs : List Value} {i : Nat} {m : Str -> Option Value}, P.Nodup -> P[i]? = some x -> vs[i]? = some v -> kindOf x = some .local ->
    bindL kindOf (P.zip vs) m x = some v
  | [], _, _, _, _, h, _, _ => by simp at h
  | _ :: _, [], _, _, _, _, h, _ => by simp at h
  | p :: P, w :: vs, 0, m, nd, h1, h2, hk => by
    simp at h1 h2; subst h1; subst h2
    show bindL kindOf ((p, w) :: P.zip vs) m p = _
    unfold bindL
    rw [bindL_out fun v hv => (List.nodup_cons.mp nd).1 (List.of_mem_zip hv).1, if_pos hk]
    simp
  | p :: P, w :: vs, i + 1, m, nd, h1, h2, hk => by
    show bindL kindOf ((p, w) :: P.zip vs) m x = _
    unfold bindL
    exact bindL_get (i := i) (List.nodup_cons.mp nd).2 (by simpa using h1) (by simpa using h2) hk
theorem bindC_get {kindOf : Str -> Option NameKind} {x : Str} {v : Value} : ∀ {P : List Str} {vs : List Value} {i : Nat} {m : Str -> Option Value}, P.Nodup -> P[i]? = some x -> vs[i]? = some v -> kindOf x ≠ some .local ->
    bindC kindOf (P.zip vs) m x = some v
  | [], _, _, _, _, h, _, _ => by simp at h
  | _ :: _, [], _, _, _, _, h, _ => by simp at h
  | p :: P, w :: vs, 0, m, nd, h1, h2, hk => by
    simp at h1 h2; subst h1; subst h2
    show bindC kindOf ((p, w) :: P.zip vs) m p = _
    unfold bindC
    rw [bindC_out fun v hv => (List.nodup_cons.mp nd).1 (List.of_mem_zip hv).1, if_neg hk]
    simp
  | p :: P, w :: vs, i + 1, m, nd, h1, h2, hk => by
    show bindC kindOf ((p, w) :: P.zip vs) m x = _
    unfold bindC
    exact bindC_get (i := i) (List.nodup_cons.mp nd).2 (by simpa using h1) (by simpa using h2) hk
def start (N : List Str) (vs : List V) : St := vs.map some ++ List.replicate (N.length - vs.length) none
def cxOf (CX : CXT) (P : Program) (w : World) (K : PySem.W.Frag) (mg : Str -> Option Value) (base : Heap) (N : List Str) (qual : Str) (scope : Scope) (f : Addr) (cd : Value) (A : Around) (outer : List Env) (s : Shared) (H : Hp) (E : XK) : Cx where
  prog := P
  w := w
  K := K
  mg := mg
  base := base
  A := A.deeper (envOfC qual scope s.heap.objs.size f cd)
  N := N
  s₀ := s
  H₀ := H
  env := envOfC qual scope s.heap.objs.size f cd
  outer := outer
  stack := envOfC qual scope s.heap.objs.size f cd :: outer
  ex := []
  calm := true
  fn := fun _ => true
  pn := []
  xe := fun e s' => wpAny (model P w) (A.deeper (envOfC qual scope s.heap.objs.size f cd)) (leaving (envOfC qual scope s.heap.objs.size f cd) e) (fun _ s'' => CX outer H s E e s'') (fun e' s'' => CX outer H s E e' s'') s'
theorem cell_has {sc : Scope} {n : Nat} {x : Str} (h : sc.names.lookup x = some .cell) : ∃ c, (cellsFrom n sc.names []).lookup x = some c := by
  have q := PySem.W.cellsFrom_some sc.names n [] (.inl h)
  exact Option.isSome_iff_exists.mp q
theorem inv_start {CX : CXT} {P : Program} {w : World} {K : PySem.W.Frag} {mg : Str -> Option Value} {base : Heap} {N ps : List Str} {qual : Str} {scope : Scope} {f : Addr} {cd : Value} {A : Around} {outer : List Env} {s s1 : Shared} {H : Hp} {E : XK} {us : List Value} {vs : List V}
    (S : FnScope N ps scope) (hd : A.handled = none) (e0 : Env0 P w K mg base A outer s H) (hl : vs.length = ps.length) (r : Vals vs us)
    (x : InCallC s s.heap.objs.size (bindL (envOfC qual scope s.heap.objs.size f cd).kindOf (ps.zip us) fun _ => none) (cellsFrom (s.heap.objs.size + 1) scope.names []) (bindC (envOfC qual scope s.heap.objs.size f cd).kindOf (ps.zip us) fun _ => none) s1) :
    Inv (cxOf CX P w K mg base N qual scope f cd A outer s H E) [] (start N vs) H s1 := by
  have hpl : ps.length <= N.length := by have := congrArg List.length S.pre; rw [List.length_take] at this; lia
  obtain ⟨h1, tk, rfl, hk⟩ := x.done
  have noA : ∀ b : Addr, b ∉ (cxOf CX P w K mg base N qual scope f cd A outer s H E).ex := fun b z => absurd (show b ∈ ([] : List Addr) from z) (by simp)
  refine ⟨⟨e0.mod, S.kind, rfl, rfl, Nat.le_refl _, fun y z c h1 h2 => ?_, fun y hy => ?_, fun y c _ h => ?_, fun _ => hd, Around.frames_deeper e0.frames, .inr ⟨rfl, rfl⟩, fun b z => absurd z (noA b), e0.bs, e0.bsz, fun b _ _ => noA b, fun b z => absurd z (noA b), e0.funs, e0.frf⟩,
    rfl, e0.bare, Un.kept hk, ⟨_, x.toInCall.ns, fun i y v h1 h2 h3 => ?_⟩, fun y c h => ⟨_, x.cell y c h⟩, e0.hok.fresh (Nat.le_refl _), fun y c h => ?_, fun p hp => absurd (show p ∈ ([] : List (Addr × Obj)) from hp) (by simp), e0.hok.kept hk, ?_⟩
  · exact name_of_addr x.apart (PySem.mem_of_lookup h1) (PySem.mem_of_lookup h2)
  · have hy : scope.names.lookup y = some .cell \/ scope.names.lookup y = some .free := hy
    rcases hy with hy | hy
    · exact cell_has hy
    · exact absurd rfl (S.nofree _ (PySem.mem_of_lookup hy))
  · exact Nat.le_of_lt (x.above y c (PySem.mem_of_lookup h))
  · have hi : i < vs.length := by
      unfold start at h2
      by_cases hi : i < vs.length
      · exact hi
      · rw [List.getElem?_append_right (by simpa using hi)] at h2
        rw [List.getElem?_replicate] at h2
        split at h2 <;> cases h2
    have ha : vs[i]? = some v := by
      unfold start at h2
      rw [List.getElem?_append_left (by simpa using hi), List.getElem?_map] at h2
      cases e : vs[i]? with
      | none => rw [e] at h2; cases h2
      | some a => rw [e] at h2; cases h2; rfl
    obtain ⟨u, hu, rv⟩ := r.get ha
    have hp : ps[i]? = some y := by
      rw [<- S.pre, List.getElem?_take_of_lt (by lia)]; exact h1
    have ndP : ps.Nodup := by rw [<- S.pre]; exact S.nd.sublist (List.take_sublist _ _)
    refine ⟨u, rv, ?_⟩
    rcases S.par y (List.mem_of_getElem? hp) with k | k
    · exact .inl ⟨k, bindL_get ndP hp hu k⟩
    · obtain ⟨c, e⟩ := cell_has (n := s.heap.objs.size + 1) k
      refine .inr ⟨.inl k, c, e, ?_⟩
      have q := x.cell y c e
      rw [bindC_get ndP hp hu (by show scope.names.lookup y ≠ _; rw [k]; decide)] at q
      exact q
  · exact e0.hok.fresh (Nat.le_of_lt (x.above y c (PySem.mem_of_lookup h)))
  · unfold start
    show _ = N.length
    rw [List.length_append, List.length_map, List.length_replicate]
    lia
theorem fn_of {CX : CXT} {P : Program} {w : World} {K : PySem.W.Frag} {mg : Str -> Option Value} {base : Heap} {k : Nat} {f : Addr} {name qual : Str} {params : Arguments} {body : List Stmt} {scope : Scope} {dV kV doc pm cdv ct oc : Value} {an od : Option Addr}
    {osl : Array (Option Value)} {N ps : List Str} {sp : Sp} (lk : K.lookup f = some ⟨oc, od, .func (PySem.W.fnOf name qual params body scope dV kV doc pm an cdv ct), osl⟩) (hcd : PySem.W.codeIn K cdv qual = true) (S : FnScope N ps scope)
    (len : ∀ vs H Q E, sp vs H Q E -> vs.length = ps.length)
    (hbody : ∀ (A : Around) (outer : List Env) (s : Shared) (H : Hp) (vs : List V) (Q : VK) (E : XK), Room k (A.deeper (envOfC qual scope s.heap.objs.size f cdv)) -> sp vs H Q E ->
      ∃ t, PSs (cxOf CX P w K mg base N qual scope f cdv A outer s H E) body t /\ t { nx := fun _ H' => Q .non H', rt := Q } (start N vs) H) :
    FnOk P w K mg base CX (k + 1) f (PySem.W.fnOf name qual params body scope dV kV doc pm an cdv ct) ps sp := by
  refine ⟨len, fun A outer s H args us vs Q E hr e0 hb r hsp => ?_⟩
  have hl := len _ _ _ _ hsp
  have KX : K.In s.heap := e0.mod.kin.keeps fun b o e => (e0.bs b o e).1
  have lim : s.heap.NoLimit := e0.mod.nolimit.keeps fun b o e => (e0.bs b o e).1
  have hkind : ∀ y ∈ ps.zip us, scope.names.lookup y.1 = some .local \/ (scope.names.lookup y.1 = some .cell /\ ((cellsFrom (s.heap.objs.size + 1) scope.names []).lookup y.1).isSome = true) := fun ⟨n, v⟩ hy => by
    rcases S.par n (List.of_mem_zip hy).1 with q | q
    · exact .inl q
    · exact .inr ⟨q, PySem.W.cellsFrom_some _ _ _ (.inl q)⟩
  refine codeAny_call_function hr.depth (KX _ _ lk) rfl S.co S.gen rfl (PySem.W.codeRec_of KX hcd) (hb _ _ _ _ ?_)
  refine wpAny_newFunctionEnv_cells S.kind hkind fun env he s1 x => ?_
  subst he
  refine ⟨lim.keeps x.toInCall.keep, codeAny_func ?_⟩
  obtain ⟨t, ht, hq⟩ := hbody A outer s H vs Q E (hr.deeper _) hsp
  have I : Inv (cxOf CX P w K mg base N qual scope f cdv A outer s H E) [] (start N vs) H s1 := inv_start S hr.hd e0 hl r x
  refine wpAny_mono (ht [] s1 (start N vs) H _ I hq) (fun fl s' hs => ?_) fun e s' hs => hs
  have fin : ∀ {σ' : St} {H' : Hp} {v : V} {u : Value}, Inv (cxOf CX P w K mg base N qual scope f cdv A outer s H E) [] σ' H' s' -> RelV v u -> Q v H' -> CE outer P w H s Q u s' :=
    fun {σ' H' v u} J rv q => ⟨v, H', J.os, J.bare, J.base, J.hok, rv, q⟩
  cases fl with
  | ret u =>
    obtain ⟨v, σ', H', J, rv, q⟩ := hs
    exact fin J rv q
  | next =>
    obtain ⟨σ', H', J, q⟩ := hs
    exact fin (v := V.non) (u := Value.none) J rfl q
  | brk =>
    obtain ⟨_, _, _, q⟩ := hs
    exact False.elim q
  | cont =>
    obtain ⟨_, _, _, q⟩ := hs
    exact False.elim q
section
variable {X : Cx} {x : Str} {p pos : Pos} {e : Expr} {es : List Expr} {t : TA} {id T : String} {r : List V -> Hp -> VK -> Prop}
def tCB (r : List V -> Hp -> VK -> Prop) (t : TA) : TE := fun σ H Q => t σ H fun vs H1 => r vs H1 Q
theorem pe_callB (hc : CallR X (.builtin id) r) (hg : Gl X x) (hm : X.mg x = none) (hv : bootBuiltins x = some (.builtin id)) (ha : PA X (e :: es) t) (hn : x ≠ "__name__" := by decide) (hdb : (x == ("__debug__" : Str)) = false := by decide)
    (he : starEach (e :: es) X.env = (false, eval e X.env) :: starEach es X.env := by rfl) (hpl : (backTo pos (starEach es X.env)).any (·.1) = false := by rfl) : PE X (.Call (.Name x p) (e :: es) [] pos) (tCB r t) := by
  intro pins s σ H Q I h
  refine wpAny_Call_Name_kw (ld_blt I hg hm hv ?_ hn hdb)
  exact PyProof.Rows.callWith_builtin1 (thn (ha pos pins s σ H _ I h) fun us s1 ⟨vs, H1, I1, r1, q1⟩ => hc pins s1 σ H1 vs us Q I1 r1 q1) he hpl
theorem pe_callTy (hc : CallR X (.type T) r) (hg : Gl X x) (hm : X.mg x = none) (hv : bootBuiltins x = some (.type T)) (ha : PA X (e :: es) t) (hn : x ≠ "__name__" := by decide) (hdb : (x == ("__debug__" : Str)) = false := by decide)
    (he : starEach (e :: es) X.env = (false, eval e X.env) :: starEach es X.env := by rfl) (hpl : (backTo pos (starEach es X.env)).any (·.1) = false := by rfl) : PE X (.Call (.Name x p) (e :: es) [] pos) (tCB r t) := by
  intro pins s σ H Q I h
  refine wpAny_Call_Name_kw (ld_blt I hg hm hv ?_ hn hdb)
  exact PyProof.Rows.callWith_type1 (thn (ha pos pins s σ H _ I h) fun us s1 ⟨vs, H1, I1, r1, q1⟩ => hc pins s1 σ H1 vs us Q I1 r1 q1) he hpl
end
end L2
namespace HT
open PySem PyProof.Rows
def lexLt : List Int -> List Int -> Bool
  | [], [] => false
  | [], _ :: _ => true
  | _ :: _, [] => false
  | x :: xs, y :: ys => if x = y then lexLt xs ys else decide (x < y)
section
open PySem.SeqAt
open PySem.AutoSeq1 (wpAny_loadPart')
open PySem.MeetsSeq PySem.MeetsSeq2 PySem.MeetsSeq3
end
section
variable {prog : Program} {w : World} {A : Around} {E : Value -> Shared -> Prop} {s : Shared}
def sIx (n d : Nat) : Option Int -> Nat
  | none => d
  | some v => if v < 0 then (v + (n : Int)).toNat else min v.toNat n
theorem sIx_nat (n d k : Nat) : sIx n d (some (k : Int)) = min k n := by
  show (if (k : Int) < 0 then ((k : Int) + (n : Int)).toNat else min (k : Int).toNat n) = min k n
  rw [if_neg (by lia), Int.toNat_natCast]
end
end HT
namespace L2
open PySem PySem.Spec PyProof.Rows
abbrev TO := St -> Hp -> (Option Int -> Hp -> Prop) -> Prop
def PO (X : Cx) (e : Option Expr) (t : TO) : Prop :=
  ∀ (pins : List (Addr × Obj)) (s : Shared) (σ : St) (H : Hp) (Q : Option Int -> Hp -> Prop), Inv X pins σ H s -> t σ H Q ->
    wpAny (model X.prog X.w) X.A (evalPart e X.env) (fun u s' => ∃ o H', Inv X pins σ H' s' /\ IsPart u o /\ Q o H') X.xe s
def tNoPart : TO := fun _ H Q => Q none H
def tPart (t : TE) : TO := fun σ H Q => t σ H fun x H1 => ∃ i, x = .int i /\ Q (some i) H1
section
variable {X : Cx} {e : Expr} {te : TE} {lo hi : Option Expr} {tl th : TO} {pos p2 : Pos}
theorem po_some (h : PE X e te) : PO X (some e) (tPart te) := by
  intro pins s σ H Q I hw
  rw [evalPart_some]
  refine thn (h pins s σ H _ I hw) fun u s1 ⟨x, H1, I1, r1, q1⟩ => ?_
  obtain ⟨i, rfl, q⟩ := q1
  obtain ⟨t, rfl⟩ := r1
  exact ⟨some i, H1, I1, .int i t, q⟩
def SlR (X : Cx) (r : V -> Option Int -> Option Int -> Hp -> VK -> Prop) : Prop :=
  ∀ (pins : List (Addr × Obj)) (s : Shared) (σ : St) (H : Hp) (x : V) (v vl vu : Value) (lo hi : Option Int) (sl : Addr) (Q : VK), Inv X pins σ H s -> RelV x v -> s.heap.IsSliceOf sl vl vu .none -> IsPart vl lo -> IsPart vu hi -> r x lo hi H Q ->
    ∃ T id, typeLookup (.type T) "__getitem__" = pure (some (.builtin id)) /\ s.TypeIs v T /\ wpAny (model X.prog X.w) X.A (getItem v (.ref sl)) (EP X pins σ Q) X.xe s
def tSl (r : V -> Option Int -> Option Int -> Hp -> VK -> Prop) (te : TE) (tl th : TO) : TE := fun σ H Q => te σ H fun x H1 => tl σ H1 fun l H2 => th σ H2 fun u H3 => r x l u H3 Q
theorem pe_slice {r : V -> Option Int -> Option Int -> Hp -> VK -> Prop} (hr : SlR X r) (he : PE X e te) (hl : PO X lo tl) (hu : PO X hi th) : PE X (.Subscript e (.Slice lo hi none p2) pos) (tSl r te tl th) := by
  intro pins s σ H Q I h
  refine Subscript_ (thn (he pins s σ H _ I h) fun v s1 ⟨x, H1, I1, r1, q1⟩ => ?_)
  refine wpAny_Slice (thn (hl pins s1 σ H1 _ I1 q1) fun vl s2 ⟨l, H2, I2, pl, q2⟩ => thn (hu pins s2 σ H2 _ I2 q2) fun vu s3 ⟨u, H3, I3, pu, q3⟩ => ?_)
  rw [evalPart_none]
  refine wpAny_pure ?_
  have I4 : Inv X pins σ H3 { s3 with heap := s3.heap.push { cls := .type "slice", data := .fields #[vl, vu, .none] } } := I3.kept (t' := s3.toks) fun b ob q => Heap.get?_push_of_some _ q
  obtain ⟨T, id, hT, ht, hg⟩ := hr pins { s3 with heap := s3.heap.push { cls := .type "slice", data := .fields #[vl, vu, .none] } } σ H3 x v vl vu l u s3.heap.objs.size Q I4 r1 (Heap.IsSliceOf.new ..) pl pu q3
  show wpAny (model X.prog X.w) X.A (subscriptTail e (.Slice lo hi none p2) v (.ref s3.heap.objs.size)) (EP X pins σ Q) X.xe { s3 with heap := s3.heap.push { cls := .type "slice", data := .fields #[vl, vu, .none] } }
  exact tail_any (ops := [.ref s3.heap.objs.size, v]) ht hT hg (by with_unfolding_all rfl)
def cutV (xs : List V) (lo hi : Option Int) : List V := (xs.drop (HT.sIx xs.length 0 lo)).take (HT.sIx xs.length xs.length hi - HT.sIx xs.length 0 lo)
theorem cutV_length (xs : List V) (lo hi : Option Int) : (cutV xs lo hi).length <= xs.length := by
  unfold cutV
  rw [List.length_take, List.length_drop]
  lia
def rSlT (K : PySem.W.Frag) : V -> Option Int -> Option Int -> Hp -> VK -> Prop := fun x lo hi H Q => ∃ a xs, x = .ref a /\ SqT K H a xs /\
  ¬ (HT.sIx xs.length 0 lo = 0 /\ HT.sIx xs.length xs.length hi = xs.length) /\ ∀ p, H p = none -> Q (.ref p) (upd H p (.tup (cutV xs lo hi)))
def rLtT (K : PySem.W.Frag) : R2 := fun x y H Q => ∃ a b ns ms, x = .ref a /\ y = .ref b /\ SqT K H a (ns.map V.int) /\ SqT K H b (ms.map V.int) /\ Q (.bl (HT.lexLt ns ms)) H
def rCatT (K : PySem.W.Frag) : R2 := fun x y H Q => ∃ a b xs ys, x = .ref a /\ y = .ref b /\ SqT K H a xs /\ SqT K H b ys /\ xs ≠ [] /\ xs.length + ys.length <= sizeLine /\
  (ys = [] -> Q (.ref a) H) /\ (ys ≠ [] -> ∀ p, H p = none -> Q (.ref p) (upd H p (.tup (xs ++ ys))))
end
def ixN (n : Nat) (i : Int) : Option Nat := if 0 <= i then (if i < n then some i.toNat else none) else if -(n : Int) <= i then some (i + n).toNat else none
def atI {α : Type} (xs : List α) (i : Int) : Option α := (ixN xs.length i).bind fun j => xs[j]?
theorem ixN_seq {n : Nat} {i : Int} {j : Nat} (h : ixN n i = some j) : seqIndex? i n = some j /\ j < n /\ -(n : Int) <= i /\ i < n := by
  unfold ixN at h
  by_cases h0 : 0 <= i
  · rw [if_pos h0] at h
    by_cases h1 : i < n
    · rw [if_pos h1] at h
      have e : i.toNat = j := Option.some.inj h
      exact ⟨by rw [seqIndex_of h0 h1, e], by lia, by lia, h1⟩
    · rw [if_neg h1] at h; cases h
  · rw [if_neg h0] at h
    by_cases h1 : -(n : Int) <= i
    · rw [if_pos h1] at h
      have e : (i + n).toNat = j := Option.some.inj h
      exact ⟨by rw [seqIndex_neg (by lia) h1, e], by lia, h1, by lia⟩
    · rw [if_neg h1] at h; cases h
theorem atI_get {α : Type} {xs : List α} {i : Int} {v : α} (h : atI xs i = some v) : ∃ j, seqIndex? i xs.length = some j /\ xs[j]? = some v /\ j < xs.length /\ -(xs.length : Int) <= i /\ i < xs.length := by
  unfold atI at h
  cases e : ixN xs.length i with
  | none => rw [e] at h; cases h
  | some j =>
    rw [e] at h
    obtain ⟨h1, h2, h3, h4⟩ := ixN_seq e
    exact ⟨j, h1, h, h2, h3, h4⟩
theorem atI_nat {α : Type} {xs : List α} {j : Nat} {v : α} (h : xs[j]? = some v) : atI xs (j : Int) = some v := by
  have hj : j < xs.length := (List.getElem?_eq_some_iff.mp h).1
  have e : ixN xs.length (j : Int) = some j := by
    unfold ixN
    rw [if_pos (by lia), if_pos (by lia)]; simp
  unfold atI; rw [e]; exact h
theorem atI_last {α : Type} (xs : List α) (v : α) : atI (xs ++ [v]) (-1) = some v := by
  have hl : (xs ++ [v]).length = xs.length + 1 := by simp
  have e : ixN (xs ++ [v]).length (-1) = some xs.length := by
    unfold ixN
    rw [hl, if_neg (by decide), if_pos (by lia)]
    congr 1
    lia
  unfold atI
  rw [e]
  show (xs ++ [v])[xs.length]? = some v
  simp
def PlainIx (b : Expr) : Prop := ∀ o i, subscripted b false o i = operate [o, i] (getItem o i)
def IxR (X : Cx) (r : R2) : Prop :=
  ∀ (value slice : Expr) (pins : List (Addr × Obj)) (s : Shared) (σ : St) (H : Hp) (x y : V) (v u : Value) (Q : VK), Inv X pins σ H s -> RelV x v -> RelV y u -> r x y H Q ->
    subscripted slice false v u = operate [v, u] (getItem v u) -> wpAny (model X.prog X.w) X.A (subscriptTail value slice v u) (EP X pins σ Q) X.xe s
def MtR (X : Cx) (id : String) (r : V -> List V -> Hp -> VK -> Prop) : Prop :=
  ∀ (pins : List (Addr × Obj)) (s : Shared) (σ : St) (H : Hp) (x : V) (xs : List V) (v : Value) (us : List Value) (Q : VK), Inv X pins σ H s -> RelV x v -> Vals xs us -> r x xs H Q ->
    wpAny (model X.prog X.w) X.A (call (.builtin id) (v :: us)) (EP X pins σ Q) X.xe s
section
variable {X : Cx} {a b : Expr} {ta tb : TE} {pos : Pos}
theorem pe_ix {r : R2} (hr : IxR X r) (ha : PE X a ta) (hb : PE X b tb) (hs : PlainIx b) : PE X (.Subscript a b pos) (tOp r ta tb) := by
  intro pins s σ H Q I h
  exact Subscript_ (binT ha hb I h fun v u s2 x y H2 I2 rx ry q => hr a b pins s2 σ H2 x y v u Q I2 rx ry q (hs _ _))
def rIxL (K : PySem.W.Frag) : R2 := fun x y H Q => ∃ p xs i v, x = .ref p /\ y = .int i /\ SqL K H p xs /\ atI xs i = some v /\ Q v H
def rIxT (K : PySem.W.Frag) : R2 := fun x y H Q => ∃ p xs i v, x = .ref p /\ y = .int i /\ SqT K H p xs /\ atI xs i = some v /\ Q v H
def rIxS : R2 := fun x y H Q => ∃ z i c, x = .str z /\ y = .int i /\ z.length <= sizeLine /\ atI z.cps.toList i = some c /\ Q (.str ⟨#[c]⟩) H
theorem ix_list : IxR X (rIxL X.K) := by
  intro value slice pins s σ H x y v u Q I rx ry h hs
  obtain ⟨p, xs, i, z, rfl, rfl, hq, he, q⟩ := h
  cases rx
  obtain ⟨t, rfl⟩ := ry
  obtain ⟨its, r, pl, hz⟩ := I.list hq
  obtain ⟨j, h1, h2, h3, h4, h5⟩ := atI_get he
  obtain ⟨w, ew, rw'⟩ := r.get h2
  have hl := r.length
  have hn := line63
  have fin : EP X pins σ Q w s := ⟨z, H, I, rw', q⟩
  by_cases h0 : 0 <= i
  · have hj : i.toNat = j := by
      rw [seqIndex_of h0 h5] at h1
      exact Option.some.inj h1
    exact item_listR pl.isList h0 (by lia) (by rw [hj]; simpa using ew) fin hs
  · have hj : (i + (its.toArray.size : Int)).toNat = j := by
      rw [seqIndex_neg (by lia) h4] at h1
      rw [List.size_toArray, <- hl]
      exact Option.some.inj h1
    exact subscriptTail_builtinR (x := w) pl.isList.typeIs slot_list_getitem.lookup
      (wpAny_getItem_list_neg (Q := fun r s' => r = w /\ EP X pins σ Q r s') pl.isList (by lia) (by rw [List.size_toArray] <;> lia) (by lia) (by rw [hj]; simpa using ew) ⟨rfl, fin⟩) hs
theorem ix_tup : IxR X (rIxT X.K) := by
  intro value slice pins s σ H x y v u Q I rx ry h hs
  obtain ⟨p, xs, i, z, rfl, rfl, hq, he, q⟩ := h
  cases rx
  obtain ⟨t, rfl⟩ := ry
  obtain ⟨its, r, pl, hz⟩ := I.tuple hq
  obtain ⟨j, h1, h2, h3, h4, h5⟩ := atI_get he
  obtain ⟨w, ew, rw'⟩ := r.get h2
  have hl := r.length
  have hn := line63
  have fin : EP X pins σ Q w s := ⟨z, H, I, rw', q⟩
  exact subscriptTail_builtinR (x := w) pl.typeIs slot_tuple_getitem.lookup
    (getItem_tuple (j := j) (Q := fun r s' => r = w /\ EP X pins σ Q r s') pl (by lia) (by lia) (by rw [List.size_toArray, <- hl]; exact h1) (by simpa using ew) ⟨rfl, fin⟩) hs
def rIx (K : PySem.W.Frag) : R2 := fun x y H Q => rIxL K x y H Q \/ rIxT K x y H Q \/ rIxS x y H Q
theorem mapSeq_set (its : List Value) (n j : Nat) (u : Value) : Obj.mapSeq (·.setIfInBounds j u) { cls := .type "list", data := .seq its.toArray n } = { cls := .type "list", data := .seq (its.set j u).toArray n } := by
  simp [Obj.mapSeq]
theorem Inv.lst {pins : List (Addr × Obj)} {σ : St} {H : Hp} {s : Shared} {p : Addr} {xs : List V} (I : Inv X pins σ H s) (h : H p = some (.lst xs)) :
    ∃ (its : List Value) (n : Nat), Vals xs its /\ s.heap.get? p = some { cls := .type "list", data := .seq its.toArray n } /\ xs.length <= sizeLine := by
  obtain ⟨z, its, n, r, e⟩ := I.hok p _ h
  exact ⟨its, n, r, e, z⟩
theorem Inv.lstUpd {pins : List (Addr × Obj)} {σ : St} {H : Hp} {s : Shared} {p : Addr} {xs ys : List V} {its its' : List Value} {n n' : Nat} {f : Obj -> Obj} (I : Inv X pins σ H s) (h : H p = some (.lst xs))
    (ho : s.heap.get? p = some { cls := .type "list", data := .seq its.toArray n }) (hf : f { cls := .type "list", data := .seq its.toArray n } = { cls := .type "list", data := .seq its'.toArray n' }) (r : Vals ys its') (hz : ys.length <= sizeLine) (t : Nat) :
    Inv X pins σ (upd H p (.lst ys)) { s with heap := s.heap.update p f, toks := t } := by
  have e : (s.heap.update p f).get? p = some { cls := .type "list", data := .seq its'.toArray n' } := by
    rw [Heap.get?_update_self f ho (by rw [hf] <;> rfl), hf]
  refine I.write (x := p) (e := p) (by rw [h]; trivial) (.inl rfl) (fun b u hb q => (Heap.get?_update_other _ _ (Ne.symm hb)).trans q) ⟨_, e⟩ ?_
  exact ⟨hz, its', n', r, e⟩
def rSetL : V -> V -> V -> Hp -> (Hp -> Prop) -> Prop := fun o i v H Q => ∃ p xs k j, o = .ref p /\ i = .int k /\ H p = some (.lst xs) /\ ixN xs.length k = some j /\ Q (upd H p (.lst (xs.set j v)))
theorem set_list : PSet X rSetL := by
  intro pins s σ H o i v ov iv u Q I ro ri rv h
  obtain ⟨p, xs, k, j, rfl, rfl, hp, hj, q⟩ := h
  cases ro
  obtain ⟨t, rfl⟩ := ri
  obtain ⟨its, n, r, ho, hz⟩ := I.lst hp
  obtain ⟨h1, h2, h3, h4⟩ := ixN_seq hj
  have hl := r.length
  have hn := line63
  have I' : Inv X pins σ (upd H p (.lst (xs.set j v))) { s with heap := s.heap.update p (Obj.mapSeq (·.setIfInBounds j u)) } :=
    I.lstUpd hp ho (mapSeq_set its n j u) (r.set rv j) (by rw [List.length_set]; exact hz) s.toks
  by_cases h0 : 0 <= k
  · have hk : k.toNat = j := by
      rw [seqIndex_of h0 h4] at h1
      exact Option.some.inj h1
    exact PySem.W.ki_setAt ho h0 (by lia) (by rw [List.size_toArray, <- hl]; exact h4) (by rw [hk]; exact ⟨_, I', q⟩)
  · have hk : (k + (its.toArray.size : Int)).toNat = j := by
      rw [seqIndex_neg (by lia) h3] at h1
      rw [List.size_toArray, <- hl]
      exact Option.some.inj h1
    exact PySem.W.ki_setBack ho (by lia) (by rw [List.size_toArray, <- hl]; exact h3) (by lia) (by rw [hk]; exact ⟨_, I', q⟩)
theorem slice_bounds (lo hi : Option Int) (n : Nat) : (sliceBounds lo hi none n).1 = ((HT.sIx n 0 lo : Nat) : Int) /\ (sliceBounds lo hi none n).2.1 = ((HT.sIx n n hi : Nat) : Int) /\ (sliceBounds lo hi none n).2.2 = 1 := by
  refine ⟨?_, ?_, rfl⟩
  · cases lo with
    | none => simp [sliceBounds, HT.sIx]
    | some i =>
      simp only [sliceBounds, HT.sIx, Option.getD_none, show (1 : Int) > 0 by decide, if_true]
      by_cases h : i < 0
      · simp only [h, if_true] <;> lia
      · simp only [h, if_false] <;> lia
  · cases hi with
    | none => simp [sliceBounds, HT.sIx]
    | some i =>
      simp only [sliceBounds, HT.sIx, Option.getD_none, show (1 : Int) > 0 by decide, if_true]
      by_cases h : i < 0
      · simp only [h, if_true] <;> lia
      · simp only [h, if_false] <;> lia
theorem slicePick_cut (its : List Value) (lo hi : Option Int) : slicePick its.toArray lo hi none = ((its.drop (HT.sIx its.length 0 lo)).take (HT.sIx its.length its.length hi - HT.sIx its.length 0 lo)).toArray := by
  obtain ⟨h1, h2, h3⟩ := slice_bounds lo hi its.toArray.size
  unfold slicePick
  rw [h1, h2, h3]
  simp only [sliceRange_one, pick_run, List.size_toArray] <;> rfl
def rSlL (K : PySem.W.Frag) : V -> Option Int -> Option Int -> Hp -> VK -> Prop := fun x lo hi H Q => ∃ a xs, x = .ref a /\ SqL K H a xs /\ ∀ p, H p = none -> Q (.ref p) (upd H p (.lst (cutV xs lo hi)))
theorem sl_list : SlR X (rSlL X.K) := by
  intro pins s σ H x v vl vu lo hi sl Q I rx hs pl pu h
  obtain ⟨a, xs, rfl, hx, q⟩ := h
  cases rx
  obtain ⟨its, r, ht, hz⟩ := I.list hx
  have hlen := r.length
  refine ⟨"list", _, slot_list_getitem.lookup, ht.isList.typeIs, ?_⟩
  refine wpAny_getItem_list_slice ht.isList hs pl pu .none (by simp) ?_ (by rw [List.size_toArray] <;> lia)
  rw [slicePick_cut, <- hlen]
  refine ⟨.ref s.heap.objs.size, _, I.laid (t' := s.toks) (o := .lst (cutV xs lo hi)) (fun b ob q => Heap.get?_push_of_some _ q) (Nat.le_refl _) ?_, rfl, q _ (I.hok.fresh (Nat.le_refl _))⟩
  exact ⟨Nat.le_trans (cutV_length xs lo hi) hz, _, 0, (r.drop (HT.sIx xs.length 0 lo)).take (HT.sIx xs.length xs.length hi - HT.sIx xs.length 0 lo), Heap.get?_push_size _ rfl⟩
def flatV : V -> Bool
  | .non => true
  | .bl _ => true
  | .int _ => true
  | .str _ => true
  | _ => false
def eqV : V -> V -> Bool
  | .non, .non => true
  | .bl a, .bl b => a == b
  | .bl a, .int b => (if a then 1 else 0) == b
  | .int a, .bl b => a == (if b then 1 else 0)
  | .int a, .int b => a == b
  | .str a, .str b => a == b
  | _, _ => false
theorem eqAt_V {A : Around} {s : Shared} {y x : V} {u v : Value} (ry : RelV y u) (rx : RelV x v) (fy : flatV y = true) (fx : flatV x = true) : SeqAt.EqAt A s u v (eqV y x) := by
  cases y with
  | non =>
    cases ry
    cases x with
    | non => cases rx; exact SeqAt.EqAt.same _
    | bl b => cases rx; exact SeqAt.EqAt.none_bool b
    | int b => obtain ⟨t, rfl⟩ := rx; exact SeqAt.EqAt.none_int b t
    | str b => obtain ⟨t, rfl⟩ := rx; exact SeqAt.EqAt.none_str b t
    | _ => exact absurd (show false = true from fx) Bool.false_ne_true
  | bl a =>
    cases ry
    cases x with
    | non => cases rx; exact SeqAt.EqAt.bool_none a
    | bl b => cases rx; exact SeqAt.EqAt.bool_bool a b
    | int b => obtain ⟨t, rfl⟩ := rx; exact SeqAt.EqAt.bool_int a b t
    | str b => obtain ⟨t, rfl⟩ := rx; exact SeqAt.EqAt.bool_str a b t
    | _ => exact absurd (show false = true from fx) Bool.false_ne_true
  | int a =>
    obtain ⟨t', rfl⟩ := ry
    cases x with
    | non => cases rx; exact SeqAt.EqAt.int_none a t'
    | bl b => cases rx; exact SeqAt.EqAt.int_bool a t' b
    | int b => obtain ⟨t, rfl⟩ := rx; exact SeqAt.EqAt.int_int a t' b t
    | str b => obtain ⟨t, rfl⟩ := rx; exact SeqAt.EqAt.int_str a t' b t
    | _ => exact absurd (show false = true from fx) Bool.false_ne_true
  | str a =>
    obtain ⟨t', rfl⟩ := ry
    cases x with
    | non => cases rx; exact SeqAt.EqAt.str_none a t'
    | bl b => cases rx; exact SeqAt.EqAt.str_bool a t' b
    | int b => obtain ⟨t, rfl⟩ := rx; exact SeqAt.EqAt.str_int a t' b t
    | str b => obtain ⟨t, rfl⟩ := rx; exact SeqAt.EqAt.str_str a t' b t
    | _ => exact absurd (show false = true from fx) Bool.false_ne_true
  | _ => exact absurd (show false = true from fy) Bool.false_ne_true
def eqU (x : V) (u : Value) : Bool := match u with
  | .none => eqV .non x
  | .bool b => eqV (.bl b) x
  | .int i _ => eqV (.int i) x
  | .str z _ => eqV (.str z) x
  | _ => false
theorem eqU_of {x y : V} {u : Value} (r : RelV y u) (f : flatV y = true) : eqU x u = eqV y x := by
  cases y with
  | non => cases r; rfl
  | bl b => cases r; rfl
  | int i => obtain ⟨t, rfl⟩ := r; rfl
  | str z => obtain ⟨t, rfl⟩ := r; rfl
  | _ => exact absurd (show false = true from f) Bool.false_ne_true
theorem any_eqU {x : V} : ∀ {xs : List V} {us : List Value}, Vals xs us -> xs.all flatV = true -> us.any (eqU x) = xs.any fun y => eqV y x
  | _, _, .nil, _ => rfl
  | y :: xs, u :: us, .cons r t, f => by
    rw [List.all_cons, Bool.and_eq_true] at f
    rw [List.any_cons, List.any_cons, eqU_of r f.1, any_eqU t f.2]
theorem mem_eqAt {A : Around} {s : Shared} {x : V} {v : Value} (rx : RelV x v) (fx : flatV x = true) : ∀ {xs : List V} {us : List Value}, Vals xs us -> xs.all flatV = true -> ∀ u ∈ us, SeqAt.EqAt A s u v (eqU x u)
  | _, _, .nil, _ => fun u hu => by cases hu
  | y :: xs, u :: us, .cons r t, f => fun u' hu => by
    rw [List.all_cons, Bool.and_eq_true] at f
    rcases List.mem_cons.mp hu with rfl | hu
    · rw [eqU_of r f.1]; exact eqAt_V r rx f.1 fx
    · exact mem_eqAt rx fx t f.2 u' hu
def inV (x : V) (xs : List V) : Bool := xs.any fun y => eqV y x
def rIn (K : PySem.W.Frag) (neg : Bool) : R2 := fun x y H Q => ∃ p xs, y = .ref p /\ (SqL K H p xs \/ SqT K H p xs) /\ flatV x = true /\ xs.all flatV = true /\ Q (.bl (if neg then !inV x xs else inV x xs)) H
theorem op_in_seq : OpR X (compareOp .In) (rIn X.K false) := by
  intro pins s σ H x y v u Q I rx ry h
  obtain ⟨p, xs, rfl, hq, fx, fs, q⟩ := h
  cases ry
  rcases hq with hq | hq
  · obtain ⟨its, r, pl, hz⟩ := I.list hq
    refine SeqAt.in_listAt (eqU x) pl.isList (fun w hw => mem_eqAt rx fx r fs w (by simpa using hw)) ⟨.bl _, H, I, rfl, ?_⟩
    rw [show its.toArray.any (eqU x) = its.any (eqU x) by simp, any_eqU r fs]
    exact q
  · obtain ⟨its, r, pl, hz⟩ := I.tuple hq
    refine SeqAt.in_tupleAt (eqU x) pl (fun w hw => mem_eqAt rx fx r fs w (by simpa using hw)) ⟨.bl _, H, I, rfl, ?_⟩
    rw [show its.toArray.any (eqU x) = its.any (eqU x) by simp, any_eqU r fs]
    exact q
theorem op_notIn_seq : OpR X (compareOp .NotIn) (rIn X.K true) := by
  intro pins s σ H x y v u Q I rx ry h
  obtain ⟨p, xs, rfl, hq, fx, fs, q⟩ := h
  cases ry
  rcases hq with hq | hq
  · obtain ⟨its, r, pl, hz⟩ := I.list hq
    refine SeqAt.notIn_listAt (eqU x) pl.isList (fun w hw => mem_eqAt rx fx r fs w (by simpa using hw)) ⟨.bl _, H, I, rfl, ?_⟩
    rw [show its.toArray.any (eqU x) = its.any (eqU x) by simp, any_eqU r fs]
    exact q
  · obtain ⟨its, r, pl, hz⟩ := I.tuple hq
    refine SeqAt.notIn_tupleAt (eqU x) pl (fun w hw => mem_eqAt rx fx r fs w (by simpa using hw)) ⟨.bl _, H, I, rfl, ?_⟩
    rw [show its.toArray.any (eqU x) = its.any (eqU x) by simp, any_eqU r fs]
    exact q
theorem call_len_seq : CallR X (.builtin "len") (fun xs H Q => ∃ p ys, xs = [.ref p] /\ (SqL X.K H p ys \/ SqT X.K H p ys) /\ Q (.int ys.length) H) := by
  intro pins s σ H xs us Q I r h
  obtain ⟨p, ys, rfl, hq, q⟩ := h
  obtain ⟨u, rfl, rx⟩ := vals1 r
  cases rx
  have hn := line63
  rcases hq with hq | hq
  · obtain ⟨its, r', pl, hz⟩ := I.list hq
    have hlen := r'.length
    exact Calls.call_len_list pl.isList (by simp only [List.size_toArray] <;> lia) ⟨.int ys.length, H, I.tok _, ⟨s.toks + 1, by rw [List.size_toArray, hlen]⟩, q⟩
  · obtain ⟨its, r', pl, hz⟩ := I.tuple hq
    have hlen := r'.length
    exact len_tuple pl (by simp only [List.size_toArray] <;> lia) ⟨.int ys.length, H, I.tok _, ⟨s.toks + 1, by rw [List.size_toArray, hlen]⟩, q⟩
theorem call_list_of : CallR X (.type "list") (fun xs H Q => ∃ p ys, xs = [.ref p] /\ (SqL X.K H p ys \/ SqT X.K H p ys) /\ ∀ l, H l = none -> Q (.ref l) (upd H l (.lst ys))) := by
  intro pins s σ H xs us Q I r h
  obtain ⟨p, ys, rfl, hq, q⟩ := h
  obtain ⟨u, rfl, rx⟩ := vals1 r
  cases rx
  have fin : ∀ (its : List Value), Vals ys its -> ys.length <= sizeLine -> ∀ (h' : Heap) (c' : Nat), (∀ b o', s.heap.get? b = some o' -> h'.get? b = some o') ->
      h'.get? s.heap.objs.size = some { cls := .type "list", dict := none, data := .seq its.toArray c', slots := #[] } -> EP X pins σ Q (.ref s.heap.objs.size) { s with heap := h' } := fun its r' hz h' c' kp e =>
    ⟨.ref s.heap.objs.size, _, I.laid (t' := s.toks) kp (Nat.le_refl _) (show ObjOk X.prog X.w _ h' _ (.lst ys) from ⟨hz, its, c', r', e⟩), rfl, q _ (I.hok.fresh (Nat.le_refl _))⟩
  rcases hq with hq | hq
  · obtain ⟨its, r', pl, hz⟩ := I.list hq
    have hlen := r'.length
    obtain ⟨o, ho, hc, n, hd⟩ := pl.isList
    exact call_list_seq p (.inl rfl) ho hc hd (fun h' c' kp e => fin its r' hz h' c' kp e) (by simp only [List.size_toArray] <;> lia)
  · obtain ⟨its, r', pl, hz⟩ := I.tuple hq
    have hlen := r'.length
    obtain ⟨o, ho, hc, n, hd⟩ := pl
    exact call_list_seq p (.inr rfl) ho hc hd (fun h' c' kp e => fin its r' hz h' c' kp e) (by simp only [List.size_toArray] <;> lia)
theorem call_tuple_of : CallR X (.type "tuple") (fun xs H Q => ∃ p ys, xs = [.ref p] /\ ((SqL X.K H p ys /\ ∀ l, H l = none -> Q (.ref l) (upd H l (.tup ys))) \/ (SqT X.K H p ys /\ Q (.ref p) H))) := by
  intro pins s σ H xs us Q I r h
  obtain ⟨p, ys, rfl, h⟩ := h
  obtain ⟨u, rfl, rx⟩ := vals1 r
  cases rx
  rcases h with ⟨hq, q⟩ | ⟨hq, q⟩
  · obtain ⟨its, r', pl, hz⟩ := I.list hq
    have hlen := r'.length
    refine call_tuple_list pl.isList (fun h' kp => ?_) (by simp only [List.size_toArray] <;> lia)
    have I1 : Inv X pins σ H { s with heap := h' } := I.kept (t' := s.toks) kp
    have I2 : Inv X pins σ (upd H h'.objs.size (.tup ys)) { s with heap := h'.push { cls := .type "tuple", data := .seq its.toArray } } :=
      I1.laid (t' := s.toks) (fun b o e => Heap.get?_push_of_some _ e) (Nat.le_refl _) (show ObjOk X.prog X.w _ _ _ (.tup ys) from ⟨hz, its, r', IsTup.new _ _⟩)
    exact ⟨.ref h'.objs.size, _, I2, rfl, q _ (I1.hok.fresh (Nat.le_refl _))⟩
  · obtain ⟨its, r', pl, hz⟩ := I.tuple hq
    exact call_tuple_same pl ⟨.ref p, H, I, rfl, q⟩
def tyV (K : PySem.W.Frag) (T : String) (x : V) (H : Hp) : Prop := match x with
  | .str _ => T = "str"
  | .int _ => T = "int"
  | .ref p => (T = "list" /\ ∃ xs, SqL K H p xs) \/ (T = "tuple" /\ ∃ o, K.lookup p = some o /\ o.cls = .type "tuple" /\ o.dict = none) \/
      (T = "dict" /\ ((∃ kvs, H p = some (.dK kvs)) \/ ∃ kvs, H p = some (.dT kvs))) \/ (T = "set" /\ ∃ S n, H p = some (.set S n))
  | _ => False
theorem tyV_is {pins : List (Addr × Obj)} {σ : St} {H : Hp} {s : Shared} {T : String} {x : V} {v : Value} (I : Inv X pins σ H s) (r : RelV x v) (ty : tyV X.K T x H) :
    s.TypeIs v T /\ ∀ a, v = .ref a -> ∃ ob, s.heap.get? a = some ob /\ ob.dict = none := by
  cases x with
  | str z =>
    obtain ⟨t, rfl⟩ := r
    cases (show T = "str" from ty)
    exact ⟨typeIs_str s z t, fun _ e => nomatch e⟩
  | int i =>
    obtain ⟨t, rfl⟩ := r
    cases (show T = "int" from ty)
    exact ⟨typeIs_int s i t, fun _ e => nomatch e⟩
  | ref p =>
    cases r
    rcases ty with ⟨rfl, xs, hq⟩ | ⟨rfl, o, hk, hc, hd⟩ | ⟨rfl, hk⟩ | ⟨rfl, S, n, hk⟩
    · obtain ⟨its, _, pl, _⟩ := I.list hq
      refine ⟨pl.isList.typeIs, fun a e => ?_⟩
      cases e
      obtain ⟨o, n, e, c, hd, _⟩ := pl
      exact ⟨o, e, hd⟩
    · refine ⟨⟨o, I.kIn p o hk, hc⟩, fun a e => ?_⟩
      cases e
      exact ⟨o, I.kIn _ o hk, hd⟩
    · have z : ∃ o, s.heap.get? p = some o /\ o.ExactDict := by
        rcases hk with ⟨kvs, hk⟩ | ⟨kvs, hk⟩
        · obtain ⟨_, _, _, _, o, _, _, e, ex, _⟩ := I.hok p _ hk
          exact ⟨o, e, ex⟩
        · obtain ⟨_, _, _, _, o, _, _, e, ex, _⟩ := I.hok p _ hk
          exact ⟨o, e, ex⟩
      obtain ⟨o, e, ex⟩ := z
      refine ⟨⟨o, e, ex.1⟩, fun a e2 => ?_⟩
      cases e2
      exact ⟨o, e, ex.2.1⟩
    · obtain ⟨o, _, _, _, e, ex, _⟩ := I.hok p _ hk
      refine ⟨⟨o, e, ex.1⟩, fun a e2 => ?_⟩
      cases e2
      exact ⟨o, e, ex.2.1⟩
  | _ => exact False.elim ty
def tBM0 (K : PySem.W.Frag) (T : String) (r : V -> List V -> Hp -> VK -> Prop) (to : TE) : TE := fun σ H Q => to σ H fun x H1 => tyV K T x H1 /\ r x [] H1 Q
def tBM (K : PySem.W.Frag) (T : String) (r : V -> List V -> Hp -> VK -> Prop) (to : TE) (t : TA) : TE := fun σ H Q => to σ H fun x H1 => tyV K T x H1 /\ t σ H1 fun xs H2 => r x xs H2 Q
variable {o e : Expr} {es : List Expr} {to : TE} {t : TA} {name : Str} {apos cpos : Pos} {T id : String} {r : V -> List V -> Hp -> VK -> Prop}
theorem pe_bm (pa : PlainAttrs T) (slot : Slot T name id) (hty : typeOf (.builtin id) = pure (.type "method_descriptor")) (hm : MtR X id r) (ho : PE X o to) (ha : PA X (e :: es) t)
    (hbase : attributeBase o name X.env (eval o X.env) = eval o X.env := by rfl)
    (hfew : ((backTo cpos (starEach (e :: es) X.env)).all (fun x => !x.1) && (backToKw cpos (keywordEach [] X.env)).all (fun x => x.1.isSome)
      && decide ((e :: es).length + ([] : List Keyword).length + (if ([] : List Keyword).isEmpty then 0 else 1) < 30)) = true := by rfl)
    (hline : (apos.endLine == cpos.line) = true := by rfl) (hs : starEach (e :: es) X.env = (false, eval e X.env) :: starEach es X.env := by rfl) (hplain : (backTo cpos (starEach es X.env)).any (·.1) = false := by rfl) :
    PE X (.Call (.Attribute o name apos) (e :: es) [] cpos) (tBM X.K T r to t) := by
  intro pins s σ H Q I h
  refine wpAny_Call_method_late hbase hfew hline rfl (thn (ho pins s σ H _ I h) fun v s1 ⟨x, H1, I1, r1, ty, q1⟩ => ?_)
  obtain ⟨h1, h2⟩ := tyV_is I1 r1 ty
  refine ⟨T, id, pa, slot, hty, h1, h2, ?_⟩
  have hA := ha cpos pins s1 σ H1 _ I1 q1
  rw [hs] at hA ⊢
  refine Calls.callWith_builtin (by show (false || (backTo cpos (starEach es X.env)).any (·.1)) = false; rw [hplain] <;> rfl) (Calls.evalArgs_plain ?_)
  exact thn hA fun us s2 ⟨vs, H2, I2, r2, q2⟩ => hm pins s2 σ H2 x vs v us Q I2 r1 r2 q2
/- xs.append(e), list.index on a module's tuple .. are MtR facts of 06m -/
end
def MtM (X : Cx) (id : String) (r : V -> List V -> Hp -> VK -> Prop) : Prop :=
  ∀ (pins : List (Addr × Obj)) (s : Shared) (σ : St) (H : Hp) (x : V) (xs : List V) (v : Value) (us : List Value) (Q : VK), Inv X pins σ H s -> RelV x v -> Vals xs us -> r x xs H Q ->
    wpAny (model X.prog X.w) X.A (call (.builtin id) (v :: us)) (EP X pins σ Q) X.xe s
theorem Vals.one : ∀ {x : V} {us : List Value}, Vals [x] us -> ∃ u, us = [u] /\ RelV x u
  | _, _, .cons r .nil => ⟨_, rfl, r⟩
theorem Vals.two : ∀ {x y : V} {us : List Value}, Vals [x, y] us -> ∃ u v, us = [u, v] /\ RelV x u /\ RelV y v := by
  intro x y us h
  cases h with
  | cons r h => cases h with
    | cons q h => cases h; exact ⟨_, _, rfl, r, q⟩
theorem Vals.zero : ∀ {us : List Value}, Vals [] us -> us = []
  | _, .nil => rfl
section
variable {X : Cx} {pins : List (Addr × Obj)} {σ : St} {H : Hp} {s : Shared} {l b : Addr} {xs ys zs : List V}
theorem Inv.lset {its its' : List Value} {n : Nat} {f : Array Value -> Array Value} {t' : Nat} (I : Inv X pins σ H s) (hH : H l = some (.lst xs))
    (e : s.heap.get? l = some { cls := .type "list", data := .seq its.toArray n }) (hf : f its.toArray = its'.toArray) (hv : Vals ys its') (hz : ys.length <= sizeLine) :
    Inv X pins σ (upd H l (.lst ys)) { s with heap := s.heap.update l (Obj.mapSeq f), toks := t' } := by
  have q := PySem.IsL.update e f
  rw [hf] at q
  refine I.write (x := l) (e := l) (by rw [hH]; exact trivial) (.inl rfl) (fun b' u hb hu => (Heap.get?_update_other s.heap (Obj.mapSeq f) (Ne.symm hb)).trans hu) ⟨_, q⟩ ?_
  exact ⟨hz, its', _, hv, q⟩
theorem Inv.lstM (I : Inv X pins σ H s) (hH : H l = some (.lst xs)) : xs.length <= sizeLine /\ ∃ (its : List Value) (n : Nat), Vals xs its /\ xs.length = its.length /\ s.heap.get? l = some { cls := .type "list", data := .seq its.toArray n } := by
  obtain ⟨z, its, n, r, e⟩ := I.hok l _ hH
  exact ⟨z, its, n, r, r.length, e⟩
theorem notLongL {n : Nat} (h : n <= sizeLine) : Builtin.List.listTooLong n = false := by
  unfold Builtin.List.listTooLong
  exact decide_eq_false (by lia)
end
section
variable {X : Cx}
def rAppend : V -> List V -> Hp -> VK -> Prop := fun x vs H Q => ∃ l xs y, x = .ref l /\ vs = [y] /\ H l = some (.lst xs) /\ xs.length < sizeLine /\ Q .non (upd H l (.lst (xs ++ [y])))
theorem mt_append : MtM X "list.append" rAppend := by
  intro pins s σ H x vs v us Q I rx rv h
  obtain ⟨l, xs, y, rfl, rfl, hH, hz, q⟩ := h
  cases rx
  obtain ⟨u, rfl, ru⟩ := rv.one
  obtain ⟨z, its, n, r, hl, e⟩ := I.lstM hH
  refine call_meets F.slot_list_append ⟨_, e, rfl⟩ F.entry_list_append (F.args_list_append_2 _ _) (PySem.list_append l its.toArray n u (by rw [List.size_toArray]; lia)) ⟨e, ?_⟩
  refine ⟨.non, _, I.lset (its' := its ++ [u]) hH e (by simp) (r.append (.cons ru .nil)) ?_, rfl, q⟩
  rw [List.length_append, List.length_singleton]
  lia
def rExtend : V -> List V -> Hp -> VK -> Prop := fun x vs H Q => ∃ l b xs zs, x = .ref l /\ vs = [.ref b] /\ H l = some (.lst xs) /\ H b = some (.lst zs) /\ xs.length + zs.length <= sizeLine /\ Q .non (upd H l (.lst (xs ++ zs)))
theorem mt_extend : MtM X "list.extend" rExtend := by
  intro pins s σ H x vs v us Q I rx rv h
  obtain ⟨l, b, xs, zs, rfl, rfl, hH, hB, hz, q⟩ := h
  cases rx
  obtain ⟨u, rfl, ru⟩ := rv.one
  cases ru
  obtain ⟨z, its, n, r, hl, e⟩ := I.lstM hH
  obtain ⟨z2, its2, n2, r2, hl2, e2⟩ := I.lstM hB
  have hsz : its.toArray.size + its2.toArray.size <= sizeLine := by rw [List.size_toArray, List.size_toArray]; lia
  have hlong : ¬ (!its.toArray.isEmpty && Builtin.List.listTooLong (its.toArray.size + its2.toArray.size)) = true := by
    rw [notLongL hsz, Bool.and_false]
    exact Bool.false_ne_true
  refine call_meets F.slot_list_extend ⟨_, e, rfl⟩ F.entry_list_extend (F.args_list_extend_2 _ _)
    (AutoSeq1.list_extend_list_list_0 l its.toArray n b its2.toArray n2 hlong (by rw [List.size_toArray]; lia) (by lia)) ⟨e, e2, ?_⟩
  refine ⟨.non, _, I.lset (its' := its ++ its2) hH e (by simp) (r.append r2) ?_, rfl, q⟩
  rw [List.length_append]
  lia
def rPop : V -> List V -> Hp -> VK -> Prop := fun x vs H Q => ∃ l xs y, x = .ref l /\ vs = [] /\ H l = some (.lst xs) /\ xs[xs.length - 1]? = some y /\ Q y (upd H l (.lst xs.dropLast))
def rPopAt : V -> List V -> Hp -> VK -> Prop := fun x vs H Q => ∃ l xs i k y, x = .ref l /\ vs = [.int i] /\ H l = some (.lst xs) /\ -(2 ^ 63) <= i /\ i < 2 ^ 63 /\ seqIndex? i xs.length = some k /\ xs[k]? = some y /\ Q y (upd H l (.lst (xs.eraseIdx k)))
def rReverse : V -> List V -> Hp -> VK -> Prop := fun x vs H Q => ∃ l xs, x = .ref l /\ vs = [] /\ H l = some (.lst xs) /\ Q .non (upd H l (.lst xs.reverse))
def rClear : V -> List V -> Hp -> VK -> Prop := fun x vs H Q => ∃ l xs, x = .ref l /\ vs = [] /\ H l = some (.lst xs) /\ Q .non (upd H l (.lst []))
def rCat : R2 := fun x y H Q => ∃ l b xs zs, x = .ref l /\ y = .ref b /\ H l = some (.lst xs) /\ H b = some (.lst zs) /\ xs.length + zs.length <= sizeLine /\ ∀ p, H p = none -> Q (.ref p) (upd H p (.lst (xs ++ zs)))
def rRep : R2 := fun x y H Q => ∃ l k xs, x = .ref l /\ y = .int k /\ H l = some (.lst xs) /\ -(2 ^ 63) <= k /\ k < 2 ^ 63 /\ xs.length * k.toNat <= sizeLine /\
  ∀ p, H p = none -> Q (.ref p) (upd H p (.lst (List.replicate k.toNat xs).flatten))
end
section
variable {prog : Program} {w : World} {A : Around} {E : Value -> Shared -> Prop} {s : Shared}
set_option maxRecDepth 100000 in
end
section
variable {X : Cx}
end
end L2
namespace Att
open PySem PySem.W PySem.Calls PyProof.Rows
theorem ints_of_wellAll {P : Params} {h : Heap} : ∀ (ns : List Int) (vs : List Value), WellAll P h vs (ns.map WData.int) -> IntsAre vs ns := by
  intro ns
  induction ns with
  | nil =>
    intro vs w
    rw [List.map_nil] at w
    cases w
    exact .nil
  | cons n ns ih =>
    intro vs w
    rw [List.map_cons] at w
    cases w with
    | cons a b =>
      cases a
      exact .cons _ _ (ih _ b)
theorem script_of {l : OpenLaw} {n : Nat} (hn : l.most = some n) {P : Params} {h : Heap} {args : List WData} {vals : List Value}
    (hpre : l.row.toRowW.claim.pre args = true) (hwl : WellAll P h vals args) :
    ∃ a vs ns, vals = [Value.ref a] /\ args = [WData.list (ns.map WData.int)] /\ h.get? a = some { cls := .type "list", data := .seq vs.toArray } /\ IntsAre vs ns /\ ns.length <= n := by
  have hsh : WShape.hasAll [] args [.list .int] = true := (pre_splitW hpre).1
  have hc : l.pre.holds [] { args := args } = true := (pre_splitW hpre).2
  obtain ⟨d, r, rfl, h1, h2⟩ := hasAllW_cons hsh
  obtain rfl := hasAllW_nil h2
  obtain ⟨xs, rfl, h3⟩ := hasW_list h1
  obtain ⟨ns, rfl⟩ := items_int h3
  have hlen : ns.length <= n := by
    unfold OpenLaw.pre at hc
    have h4 : (WTm.not (.lt (.lit (.int (n : Int))) (.len (.arg 0)))).holds [] { args := [.list (ns.map .int)] } = true := by
      have h4 := (holds_andW hc).1
      rw [hn] at h4
      exact h4
    have h5 := condW_of h4 (w_not (w_lt w_lit (w_len_list (w_arg rfl))))
    rw [List.length_map] at h5
    refine Nat.le_of_not_lt fun q => ?_
    have q' : (n : Int) < ((ns.length : Nat) : Int) := by lia
    first
      | (rw [decide_eq_true q'] at h5; exact absurd h5 (by decide))
      | (simp at h5; lia)
  cases hwl with
  | cons w1 w2 =>
    cases w2
    cases w1 with
    | list ho hall => exact ⟨_, _, ns, rfl, rfl, ho, ints_of_wellAll ns _ hall, hlen⟩
theorem post_true (l : OpenLaw) (args : List WData) : l.row.toRowW.claim.post args (.bool true) args = true :=
  postW_of (r := l.row.toRowW) (X := (true == true))
    (show WShape.has [] (.bool true) .bool = true by first | rfl | decide | simp [WShape.has, WShape.arms, WShape.armsAll])
    (show (WTm.eq .res (.lit (.bool true))).value [] { args := args, res := some (.bool true), after := args } = some (.bool (true == true)) from w_eq_bool (w_res rfl) w_lit) rfl
theorem attach_call {l : OpenLaw} {n : Nat} {q : Program} {loose : List Str} {XP : (Str -> Option Value) -> Heap -> Prop} {YP : World -> Heap -> Prop} {d : DefRec}
    (hn : l.most = some n) (hdf : d.params.defaults = [])
    (call : ∀ (w : World) (s₀ s₁ : Shared) (mg mb : Str -> Option Value) (fa : Addr) (o : Obj) (pm cd doc : Value) (a : Addr) (vs : List Value) (ns : List Int),
      Ground q loose [] XP w s₀ mg mb s₁.heap -> YP w s₁.heap ->
      s₁.heap.get? fa = some o -> o.data = .func (docDef d.name d.params d.body d.scope pm cd doc) -> s₁.heap.CodeRec cd d.name -> mg d.name = some (.ref fa) ->
      s₁.heap.get? a = some { cls := .type "list", data := .seq vs.toArray } -> IntsAre vs ns -> ns.length <= n -> s₁.gens = #[] ->
      codeAny (model l.prog w) callerA (.call (.ref fa) ⟨[.ref a], []⟩) (fun r s' => r = .ok (.ret (.bool true)) /\ OldK s₁.heap s'.heap /\ s'.os = s₁.os /\ AllBare s'.gens) s₁) :
    WalkO q loose XP YP l.row.toRowW d [] (fun f vs => PySem.call f vs) := by
  intro w s₀ s₁ mg mb G Y fa o pm cd doc dV kV ho hd hcd hD hmg hg args vals as hpre hlay hrd hwl hlo
  obtain rfl : dV = .none := Dflts.none hD hdf
  obtain rfl : kV = .none := Dflts.noKw hD
  obtain ⟨a, vs, ns, rfl, rfl, hobj, hints, hlen⟩ := script_of hn hpre hwl
  refine enter_call (codeAny_mono (call w s₀ s₁ mg mb fa o pm cd doc a vs ns G Y ho (fd_plain hd) hcd hmg hobj hints hlen hg) fun r s' hq => ?_)
  obtain ⟨rfl, h2, h3, h4⟩ := hq
  exact ⟨.inl ⟨.bool true, .bool true, [], rfl, fun _ => rfl, .bool true, post_true l _, fun _ => ⟨List.Pairwise.nil, fun _ hm => (nomatch hm)⟩⟩, h2, h3, h4⟩
section
variable {prog : Program} {w : World} {A : Around} {E : Value -> Shared -> Prop} {s : Shared} {K : Frag}
def noObjs (h : Heap) : Heap := { h with objs := #[] }
def ledger (h : Heap) (L d : Addr) : List (Addr × Obj) := (List.range h.objs.size).filterMap fun a => if a = L \/ a = d then none else (h.get? a).map fun o => (a, o)
end
end Att
namespace L2
open PySem PySem.Spec PyProof.Rows
theorem vals_ints : ∀ {vs : List Value} {ns : List Int}, IntsAre vs ns -> Vals (ns.map V.int) vs
  | _, _, .nil => .nil
  | _, _, .cons n t h => .cons ⟨t, rfl⟩ (vals_ints h)
def Only (H : Hp) : Prop := ∀ b, H b = none \/ ∃ o xs, H b = some (.frz o (.lst xs))
theorem law_call {P : Program} {w : World} {K : PySem.W.Frag} {mg mb : Str -> Option Value} {CX : CXT} {k : Nat} {fa a : Addr} {fd : FuncData} {x : Str} {sp : Sp} {s₁ : Shared} {vs : List Value} {ns : List Int}
    (KX : K.In s₁.heap) (hns : s₁.heap.Ns mainGlobals mg) (hb : s₁.heap.Ns builtinsNs mb) (hbb : ∀ x : Str, x ≠ "__name__" -> mb x = bootBuiltins x) (hlim : s₁.heap.NoLimit) (hg : s₁.gens = #[])
    (ha : s₁.heap.get? a = some { cls := .type "list", data := .seq vs.toArray }) (hi : IntsAre vs ns) (hl : ns.length <= sizeLine) (hr : Room k callerA)
    (F : ∀ base : Heap, K.In base -> base.Ns mainGlobals mg -> FnOk P w K mg base CX k fa fd [x] sp) (hbind : ∀ (s : Shared) (u : Value), BindsTo s fd ⟨[u], []⟩ [(x, u)])
    (hsp : ∀ H : Hp, Only H -> SqL K H a (ns.map V.int) -> sp [.ref a] H (fun v _ => v = .bl true) fun _ _ _ => False)
    (hCX : ∀ H e s', CX [] H s₁ (fun _ _ _ => False) e s' -> False) :
    codeAny (model P w) callerA (.call (.ref fa) ⟨[.ref a], []⟩) (fun r s' => r = .ok (.ret (.bool true)) /\ OldK s₁.heap s'.heap /\ s'.os = s₁.os /\ AllBare s'.gens) s₁ := by
  have rv := vals_ints hi
  have lenV := hi.length
  have core : ∀ H : Hp, Only H -> SqL K H a (ns.map V.int) -> HOk P w H s₁.heap -> (∀ b, H b ≠ none -> b = a) -> (H a ≠ none -> K.lookup a = none) ->
      codeAny (model P w) callerA (.call (.ref fa) ⟨[.ref a], []⟩) (fun r s' => r = .ok (.ret (.bool true)) /\ OldK s₁.heap s'.heap /\ s'.os = s₁.os /\ AllBare s'.gens) s₁ := by
    intro H hO hS hok hA hK
    have base_of : ∀ {b : Addr} {o : Obj}, s₁.heap.get? b = some o -> H b = none -> (hidT s₁.heap H).get? b = some o := fun e n => hidT_get e n
    have noA : ∀ {b : Addr} {o : Obj} {es : Array DictEntry} {ep : Nat}, s₁.heap.get? b = some o -> o.data = .dict es ep -> H b = none := fun {b o es ep} e d => by
      cases q : H b with
      | none => rfl
      | some u =>
        have e' : b = a := hA b (by rw [q]; simp)
        subst e'
        rw [ha] at e; cases e
        have d' : Data.seq vs.toArray _ = Data.dict es ep := d
        cases d'
    have nsK : ∀ {b : Addr} {m : Str -> Option Value}, s₁.heap.Ns b m -> (hidT s₁.heap H).Ns b m := fun {b m} ⟨o, es, ep, e, d, r⟩ => ⟨o, es, ep, base_of e (noA e d), d, r⟩
    have hKb : K.In (hidT s₁.heap H) := fun b o e => base_of (KX b o e) (by
      cases q : H b with
      | none => rfl
      | some u =>
        have e' : b = a := hA b (by rw [q]; simp)
        subst e'
        rw [hK (by rw [q]; simp)] at e; cases e)
    have hM : Mod K mg (hidT s₁.heap H) := ⟨hKb, nsK hns, ⟨mb, nsK hb, hbb⟩, let ⟨mc, h1, h2⟩ := hlim; ⟨mc, nsK h1, h2⟩⟩
    have e0 : Env0 P w K mg (hidT s₁.heap H) callerA [] s₁ H := ⟨rfl, hM, fun b o e => of_hidT e, Nat.le_of_eq (hidT_size _ _), trivial, fun b hb => absurd (show b ∈ ([] : List Addr) from hb) (by simp), hok, .of_eq hg⟩
    refine codeAny_mono ((F _ hKb (nsK hns)).run callerA [] s₁ H ⟨[.ref a], []⟩ [.ref a] [.ref a] _ _ hr e0 (hbind s₁ (.ref a)) (.cons rfl .nil) (hsp H hO hS)) fun r s' h => ?_
    cases r with
    | error e => exact (hCX H e s' h).elim
    | ok fl =>
      cases fl with
      | next => exact False.elim h
      | brk => exact False.elim h
      | cont => exact False.elim h
      | ret u =>
        obtain ⟨v, H', os, bare, un, hok', r', q⟩ := h
        have q' : v = .bl true := q
        subst q'
        obtain rfl : u = Value.bool true := r'
        refine ⟨rfl, OldK.of_keep fun b o e => ?_, os, bare⟩
        cases q : H b with
        | none => exact un.keep b o e q (by intro z; exact absurd (show b ∈ ([] : List Addr) from z) (by simp)) (by simp)
        | some u =>
          rcases hO b with z | ⟨ob, xs, z⟩
          · rw [q] at z; cases z
          · have z2 := un.frzs b ob _ z
            obtain ⟨e1, _⟩ := hok b _ z
            obtain ⟨e2, _⟩ := hok' b _ z2
            rw [e] at e1; cases e1
            exact e2
  cases hk : K.lookup a with
  | some o =>
    have e := KX a o hk
    rw [ha] at e
    cases e
    refine core (fun _ => none) (fun _ => .inl rfl) (.inr ⟨_, vs.toArray, _, hk, rfl, rfl, rfl, by rw [List.size_toArray, lenV]; exact hl, by simpa using rv⟩) (fun b u z => by have z' : (none : Option HO) = some u := z; cases z') (fun b z => absurd rfl z) fun z => absurd rfl z
  | none =>
    refine core (fun b => if b = a then some (.frz { cls := .type "list", data := .seq vs.toArray } (.lst (ns.map V.int))) else none) (fun b => ?_) (.inl (.inr ⟨{ cls := .type "list", data := .seq vs.toArray }, if_pos rfl⟩)) (fun b u z => ?_) (fun b z => ?_) fun _ => hk
    · by_cases hb : b = a
      · exact .inr ⟨_, _, if_pos hb⟩
      · exact .inl (if_neg hb)
    · by_cases hb : b = a
      · have z' := (if_pos hb).symm.trans z
        cases z'
        subst hb
        exact ⟨ha, by rw [List.length_map]; exact hl, vs, _, rv, ha⟩
      · have z' := (if_neg hb).symm.trans z
        cases z'
    · by_cases hb : b = a
      · exact hb
      · exact absurd (if_neg hb) z
abbrev KOf {K : PySem.W.Frag} {h : Heap} (_ : K.In h) : PySem.W.Frag := K
theorem walk_of {l : PySem.W.OpenLaw} {n k : Nat} {q : Program} {loose : List Str} {XP : (Str -> Option Value) -> Heap -> Prop} {YP : World -> Heap -> Prop} {d : DefRec} {K : Params -> PySem.W.Frag} {CX : World -> CXT} {sp : World -> Sp} {x : Str}
    (hn : l.most = some n) (hn2 : n <= sizeLine) (hdf : d.params.defaults = []) (hr : Room k callerA)
    (hY : ∀ (w : World) (h : Heap), YP w h -> (K w.params).In h)
    (F : ∀ (w : World) (mg : Str -> Option Value) (fa : Addr) (h : Heap), (K w.params).In h -> h.Ns mainGlobals mg -> mg d.name = some (.ref fa) ->
      ∃ fd : FuncData, (∀ (s : Shared) (u : Value), BindsTo s fd ⟨[u], []⟩ [(x, u)]) /\
        ∀ base : Heap, (K w.params).In base -> base.Ns mainGlobals mg -> FnOk l.prog w (K w.params) mg base (CX w) k fa fd [x] (sp w))
    (hsp : ∀ (w : World) (H : Hp) (a : Addr) (ns : List Int), ns.length <= n -> Only H -> SqL (K w.params) H a (ns.map V.int) -> sp w [.ref a] H (fun v _ => v = .bl true) fun _ _ _ => False)
    (hCX : ∀ (w : World) (H : Hp) (s : Shared) (e : Value) (s' : Shared), CX w [] H s (fun _ _ _ => False) e s' -> False) :
    PySem.W.WalkO q loose XP YP l.row.toRowW d [] (fun f vs => PySem.call f vs) := by
  refine Att.attach_call hn hdf fun w s₀ s₁ mg mb fa o pm cd doc a vs ns G Y ho hd hcd hmg hobj hints hlen hg => ?_
  have KX := hY w _ Y
  obtain ⟨fd, hb, hF⟩ := F w mg fa _ KX G.T.g hmg
  exact law_call KX G.T.g G.T.b G.T.builtins G.T.nolimit hg hobj hints (Nat.le_trans hlen hn2) hr hF hb (fun H hO hS => hsp w H a ns hlen hO hS) fun H e s' => hCX w H s₁ e s'
end L2
/- THE LAST THEOREM (shape; LID, My.* are yours):
   My.Adr: a structure of the addresses that your layer names (classes, functions); My.Txt K t: a structure (Prop) of the equations over K;
   My.txt_mk : {K} {implicit addresses ..} (e1 : nsIn K mainGlobals "law" = some (some (.ref f))) (e2 : K.lookup f = some ⟨oc, od, .func (fnOf "law" "law" params body scope dV kV doc pm an cdv ct), sl⟩) (e3 : codeIn K cdv "law" = true) .. : ∃ t, My.Txt K t
set_option maxRecDepth 100000 in
set_option maxHeartbeats 0 in
theorem PySem.Challenge.cw_LID_holds : PySem.Challenge.rw_LID.Holds := by
  w_on; o_law; k_head; (case hw => w_witness2)
  k_fill
  refine L2.walk_of (l := PySem.Challenge.rw_LID) (n := 63) (k := 40) (x := "script") (CX := fun w => ..) (sp := fun _ => My.sp_law) rfl (by decide) rfl ⟨rfl, by decide, by decide⟩ (fun w h Y => PySem.W.kIn_of Y) ?F ?S ?C
  case F =>
    intro w mg fa h KX G hmg
    have T : ∃ t, My.Txt (L2.KOf KX) t := by
      dsimp only [L2.KOf]                          -- K must stand as «<heap const> w.params» for k_is
      refine' My.txt_mk ?e1 ?e2 ?e3 ..
      (case e1 => PySem.W.k_is)                    -- in the order: a name -> its address -> its object -> its parts
      (case e2 => PySem.W.k_is)
      ..
    obtain ⟨t, T⟩ := T
    have e0 := hmg.symm.trans (PySem.W.mg_of KX G T.law)
    cases e0                                       -- fa is the law's own address
    exact ⟨_, fun s u => .of_eq rfl, fun base kb nb => My.law_fn T kb nb⟩     -- if «.of_eq rfl» comes too early: refine' ⟨_, ?b, fun base kb nb => My.law_fn T kb nb⟩; exact fun s u => .of_eq rfl
  case S => exact fun w H a ns hl hO hS => ..
  case C => exact ..
(the tactic k_is has no namespace: write k_is) -/
namespace L2
open PySem PySem.Spec PyProof.Rows
def inClass (s : Stmt) (j : Nat) : Stmt := match s with
  | .ClassDef _ _ _ body _ _ _ _ _ _ _ => body.getD j (.Pass ⟨0, 0, 0, 0⟩)
  | _ => .Pass ⟨0, 0, 0, 0⟩
def defArgs (s : Stmt) : Arguments := match s with
  | .FunctionDef _ a _ _ _ _ _ _ _ _ => a
  | _ => { posonlyargs := [], args := [], vararg := none, kwonlyargs := [], kw_defaults := [], kwarg := none, defaults := [] }
def defBody (s : Stmt) : List Stmt := match s with
  | .FunctionDef _ _ b _ _ _ _ _ _ _ => b
  | _ => []
def defScope (s : Stmt) : Scope := match s with
  | .FunctionDef _ _ _ _ _ _ sc _ _ _ => sc
  | _ => { kind := .function, names := [], isGenerator := false, isCoroutine := false }
abbrev CX0 : CXT := fun _ _ _ _ _ _ => False
abbrev E0 : XK := fun _ _ _ => False
theorem pass0 {X : Cx} : Passes CX0 X E0 := fun _ _ _ _ _ _ _ h => h.elim
structure Fun (K : PySem.W.Frag) (x qual : Str) (st : Stmt) (f : Addr) (fd : FuncData) : Prop where
  ex : ∃ (oc : Value) (od : Option Addr) (kV doc pm : Value) (an : Option Addr) (cdv ct : Value) (osl : Array (Option Value)),
    fd = PySem.W.fnOf x qual (defArgs st) (defBody st) (defScope st) .none kV doc pm an cdv ct /\ K.lookup f = some ⟨oc, od, .func fd, osl⟩ /\ PySem.W.codeIn K cdv qual = true
  kp : PySem.W.keepIn K (.ref f) = true
section
variable {P : Program} {w : World} {K : PySem.W.Frag} {mg : Str -> Option Value} {base : Heap}
theorem Fun.ok {x qual : Str} {st : Stmt} {f : Addr} {fd : FuncData} {N ps : List Str} {k : Nat} {sp : Sp} (F : Fun K x qual st f fd) (S : FnScope N ps (defScope st)) (len : ∀ vs H Q E, sp vs H Q E -> vs.length = ps.length)
    (hbody : ∀ (cdv : Value) (A : Around) (outer : List Env) (s : Shared) (H : Hp) (vs : List V) (Q : VK) (E : XK), Room k (A.deeper (envOfC qual (defScope st) s.heap.objs.size f cdv)) -> sp vs H Q E ->
      ∃ t, PSs (cxOf CX0 P w K mg base N qual (defScope st) f cdv A outer s H E).nox (defBody st) t /\ t { nx := fun _ H' => Q .non H', rt := Q } (start N vs) H) : FnOk P w K mg base CX0 (k + 1) f fd ps sp := by
  obtain ⟨oc, od, kV, doc, pm, an, cdv, ct, osl, rfl, lk, hcd⟩ := F.ex
  refine fn_of lk hcd S len fun A outer s H vs Q E hr hsp => ?_
  obtain ⟨t, h, q⟩ := hbody cdv A outer s H vs Q E hr hsp
  exact ⟨t, h.nox, q⟩
theorem Fun.binds {x qual : Str} {st : Stmt} {f : Addr} {fd : FuncData} {ps : List Str} (F : Fun K x qual st f fd)
    (h : ∀ (kV doc pm : Value) (an : Option Addr) (cdv ct : Value) (us : List Value), us.length = ps.length -> bindArgs (PySem.W.fnOf x qual (defArgs st) (defBody st) (defScope st) .none kV doc pm an cdv ct) ⟨us, []⟩ = pure (ps.zip us)) : Binds K fd ps [] := by
  obtain ⟨oc, od, kV, doc, pm, an, cdv, ct, osl, rfl, lk, hcd⟩ := F.ex
  exact .all (h kV doc pm an cdv ct)
theorem fun_mk {x qual : Str} {st : Stmt} {f : Addr} {oc : Value} {od an : Option Addr} {osl : Array (Option Value)} {kV doc pm cdv ct : Value} (l : K.lookup f = some ⟨oc, od, .func (PySem.W.fnOf x qual (defArgs st) (defBody st) (defScope st) .none kV doc pm an cdv ct), osl⟩)
    (c : PySem.W.codeIn K cdv qual = true) (k : PySem.W.keepIn K (.ref f) = true) : Fun K x qual st f (PySem.W.fnOf x qual (defArgs st) (defBody st) (defScope st) .none kV doc pm an cdv ct) := ⟨⟨oc, od, kV, doc, pm, an, cdv, ct, osl, rfl, l, c⟩, k⟩
end
section
variable {X : Cx}
theorem pv (i : Nat) {x : Str} {pos : Pos} (hN : X.N[i]? = some x := by rfl) (hv : Vis X.env.scope x := by first | exact Or.inl rfl | exact Or.inr (Or.inl rfl) | exact Or.inr (Or.inr rfl)) (hd : (x == ("__debug__" : Str)) = false := by decide)
    (hcd : (x == ("__classdict__" : Str)) = false := by decide) : PE X (.Name x pos) (tVar i) := pe_var hN hv hd hcd
end
theorem iteF {A B : Prop} (h : B) : if false = true then A else B := by
  rw [if_neg Bool.false_ne_true]
  exact h
theorem iteT {A B : Prop} (h : A) : if true = true then A else B := by
  rw [if_pos rfl]
  exact h
theorem ite2 {c A B : Prop} [Decidable c] (h1 : c -> A) (h2 : ¬ c -> B) : if c then A else B := by
  by_cases h : c
  · rw [if_pos h]
    exact h1 h
  · rw [if_neg h]
    exact h2 h
theorem iteNS {c A B : Prop} [Decidable c] (hc : c) (h : B) : if (!decide c) = true then A else B := by
  rw [decide_eq_true hc]
  exact iteF h
def Same (H H' : Hp) : Prop := ∀ b o, H b = some o -> H' b = some o
theorem Same.refl (H : Hp) : Same H H := fun _ _ h => h
theorem Same.trans {H H1 H2 : Hp} (a : Same H H1) (b : Same H1 H2) : Same H H2 := fun c o h => b c o (a c o h)
theorem Same.seq {K : PySem.W.Frag} {H H' : Hp} {a : Addr} {xs : List V} (e : Same H H') (h : SqL K H a xs) : SqL K H' a xs := by
  rcases h with (h | ⟨o, h⟩) | h
  · exact .inl (.inl (e _ _ h))
  · exact .inl (.inr ⟨o, e _ _ h⟩)
  · exact .inr h
def PIfs (X : Cx) (ifs : List Expr) (t : TT) : Prop :=
  ∀ (pins : List (Addr × Obj)) (s : Shared) (σ : St) (H : Hp) (Q : Bool -> Hp -> Prop), Inv X pins σ H s -> t σ H Q ->
    wpAny (model X.prog X.w) X.A (forIn ifs true fun c r => if r = true then do
      let ok <- isTrue c X.env (eval c X.env)
      pure (ForInStep.yield ok) else pure (ForInStep.yield r)) (TP X pins σ Q) X.xe s
def tYes : TT := fun _ H Q => Q true H
theorem pifs_nil {X : Cx} : PIfs X [] tYes := fun _ _ _ H _ I h => wpAny_tests_nil ⟨H, I, h⟩
theorem pifs_one {X : Cx} {c : Expr} {t : TT} (h : PT X c t) : PIfs X [c] t := fun pins s σ H Q I hw => wpAny_tests_one (h pins s σ H Q I hw)
def clOf (env : Env) : List (Str × NameKind) -> List (Str × Addr) -> List (Str × Addr)
  | [], cs => cs
  | (n, k) :: r, cs => clOf env r (if (k == NameKind.free) = true then (n, (env.cells.lookup n).getD 0) :: cs else cs)
theorem clOf_loop {env : Env} : ∀ (names : List (Str × NameKind)) (cs : List (Str × Addr)), (∀ x ∈ names, x.2 = .free -> ∃ c, env.cells.lookup x.1 = some c) ->
    (forIn names cs fun (x : Str × NameKind) (r : List (Str × Addr)) => (if (x.2 == NameKind.free) = true then do
      let a <- cellOf env x.1
      pure (ForInStep.yield ((x.1, a) :: r)) else pure (ForInStep.yield r) : Sem (ForInStep (List (Str × Addr))))) = pure (clOf env names cs)
  | [], cs, _ => rfl
  | (n, k) :: r, cs, h => by
    rw [List.forIn_cons]
    by_cases hk : (k == NameKind.free) = true
    · obtain ⟨c, hc⟩ := h (n, k) List.mem_cons_self (by simpa using hk)
      have hc' : env.cells.lookup n = some c := hc
      have e1 : cellOf env n = pure c := by unfold cellOf; rw [hc']
      simp only [hk, if_true, e1, pure_bind]
      rw [clOf_loop r _ fun x hx => h x (List.mem_cons_of_mem _ hx)]
      simp [clOf, hk, hc']
    · simp only [hk, pure_bind]
      rw [if_neg (by simp), pure_bind]
      dsimp only
      rw [clOf_loop r _ fun x hx => h x (List.mem_cons_of_mem _ hx)]
      simp [clOf, hk]
theorem closure_is {scope : Scope} {env : Env} (h : ∀ x ∈ scope.names, x.2 = .free -> ∃ c, env.cells.lookup x.1 = some c) : closureFor scope env = pure (clOf env scope.names []) := by
  have e := clOf_loop scope.names [] h
  simp only [closureFor]
  first
    | (rw [e]; rfl)
    | (refine Eq.trans (congrArg (fun t => t >>= _) e) ?_; rfl)
    | (simp only [e]; rfl)
theorem clOf_get {env : Env} {x : Str} {c : Addr} : ∀ (names : List (Str × NameKind)) (cs : List (Str × Addr)), (∀ y ∈ names, y.2 = .free -> ∃ d, env.cells.lookup y.1 = some d) ->
    (clOf env names cs).lookup x = some c -> cs.lookup x = some c \/ env.cells.lookup x = some c
  | [], cs, _, e => .inl e
  | (n, k) :: r, cs, h, e => by
    have e' : (clOf env r (if (k == NameKind.free) = true then (n, (env.cells.lookup n).getD 0) :: cs else cs)).lookup x = some c := e
    rcases clOf_get r _ (fun y hy => h y (List.mem_cons_of_mem _ hy)) e' with q | q
    · by_cases hk : (k == NameKind.free) = true
      · rw [if_pos hk] at q
        obtain ⟨d, hd⟩ := h (n, k) List.mem_cons_self (by simpa using hk)
        have hd' : env.cells.lookup n = some d := hd
        rw [List.lookup_cons] at q
        by_cases hx : (x == n) = true
        · rw [hx] at q
          have ex : x = n := by simpa using hx
          subst ex
          rw [hd'] at q
          simp at q
          exact .inr (by rw [hd', q])
        · simp only [hx] at q
          exact .inl q
      · rw [if_neg hk] at q
        exact .inl q
    · exact .inr q
theorem clOf_keep {env : Env} {x : Str} : ∀ (names : List (Str × NameKind)) (cs : List (Str × Addr)), (∃ c, cs.lookup x = some c) -> ∃ c, (clOf env names cs).lookup x = some c
  | [], cs, h => h
  | (n, k) :: r, cs, h => by
    refine clOf_keep r _ ?_
    by_cases hk : (k == NameKind.free) = true
    · rw [if_pos hk, List.lookup_cons]
      cases hx : x == n with
      | true => exact ⟨_, rfl⟩
      | false => exact h
    · rw [if_neg hk]; exact h
theorem clOf_has {env : Env} {x : Str} : ∀ (names : List (Str × NameKind)) (cs : List (Str × Addr)), (x, NameKind.free) ∈ names -> ∃ c, (clOf env names cs).lookup x = some c
  | (n, k) :: r, cs, h => by
    show ∃ c, (clOf env r (if (k == NameKind.free) = true then (n, (env.cells.lookup n).getD 0) :: cs else cs)).lookup x = some c
    rcases List.mem_cons.mp h with e | e
    · cases e
      refine clOf_keep r _ ⟨(env.cells.lookup x).getD 0, ?_⟩
      rw [if_pos (by rfl), List.lookup_cons]
      simp
    · exact clOf_has r _ e
def relN (env : Env) (names : List (Str × NameKind)) : List (Str × NameKind) :=
  names.map fun (n, k) => if (k == NameKind.free && env.scope.kind == .function && env.kindOf n == some .cell) then (n, NameKind.cell) else (n, k)
theorem relN_get {env : Env} {x : Str} {k' : NameKind} : ∀ (names : List (Str × NameKind)), (relN env names).lookup x = some k' -> ∃ k, names.lookup x = some k /\ (k' = k \/ (k = .free /\ k' = .cell))
  | [], h => by simp [relN] at h
  | (n, k) :: r, h => by
    have ih := relN_get (env := env) (x := x) (k' := k') r
    have h' : ((if (k == NameKind.free && env.scope.kind == .function && env.kindOf n == some .cell) = true then (n, NameKind.cell) else (n, k)) :: relN env r).lookup x = some k' := h
    by_cases hc : (k == NameKind.free && env.scope.kind == .function && env.kindOf n == some .cell) = true
    · rw [if_pos hc, List.lookup_cons] at h'
      rw [List.lookup_cons]
      cases hx : x == n with
      | true =>
        rw [hx] at h'
        have h2 : NameKind.cell = k' := Option.some.inj h'
        have hk : k = .free := by
          cases k <;> first | rfl | (simp at hc)
        exact ⟨k, rfl, .inr ⟨hk, h2.symm⟩⟩
      | false =>
        rw [hx] at h'
        exact ih h'
    · rw [if_neg hc, List.lookup_cons] at h'
      rw [List.lookup_cons]
      cases hx : x == n with
      | true =>
        rw [hx] at h'
        exact ⟨k, rfl, .inl (Option.some.inj h').symm⟩
      | false =>
        rw [hx] at h'
        exact ih h'
def cxComp (X : Cx) (scope : Scope) (N' : List Str) (fp : List Addr) (C : Addr) (s : Shared) (H : Hp) : Cx where
  prog := X.prog
  w := X.w
  K := X.K
  mg := X.mg
  base := X.base
  A := X.A
  N := N'
  s₀ := s
  H₀ := H
  env := compEnvC scope (clOf X.env scope.names []) C X.env
  outer := X.stack
  stack := X.stack
  ex := fp
  fn := fun _ => false
  calm := true
  pn := X.pn
  xe := fun _ _ => False
def stComp (fr : List (Option Nat)) (σ : St) : St := fr.map fun o => o.bind fun j => (σ[j]?).join
def frOk (N : List Str) (kinds names : List (Str × NameKind)) (N' : List Str) (fr : List (Option Nat)) : Bool :=
  (N'.length == fr.length) && (N'.zip fr).all fun p => match p.2 with
    | none => true
    | some j => N[j]? == some p.1 && names.lookup p.1 == some NameKind.free && (kinds.lookup p.1 == some NameKind.cell || kinds.lookup p.1 == some NameKind.free)
theorem frOk_at {N : List Str} {kinds names : List (Str × NameKind)} {N' : List Str} {fr : List (Option Nat)} (h : frOk N kinds names N' fr = true) {i j : Nat} {x : Str} (h1 : N'[i]? = some x) (h2 : fr[i]? = some (some j)) :
    N[j]? = some x /\ names.lookup x = some NameKind.free /\ (kinds.lookup x = some NameKind.cell \/ kinds.lookup x = some NameKind.free) := by
  unfold frOk at h
  rw [Bool.and_eq_true, List.all_eq_true] at h
  have hm : (x, some j) ∈ N'.zip fr := by
    refine List.mem_of_getElem? (i := i) ?_
    rw [List.getElem?_zip_eq_some]
    exact ⟨h1, h2⟩
  have q := h.2 _ hm
  simp only [Bool.and_eq_true, Bool.or_eq_true, beq_iff_eq] at q
  exact ⟨q.1.1, q.1.2, q.2⟩
structure CompOk (X : Cx) (scope : Scope) (N' : List Str) (fr : List (Option Nat)) : Prop where
  kind : scope.kind = .function
  cells : ∀ y ∈ scope.names, y.2 ≠ .cell
  names : ∀ y ∈ scope.names, y.2 = .local -> scope.names.lookup y.1 = some .local
  frees : ∀ y ∈ scope.names, y.2 = .free -> X.env.kindOf y.1 = some .cell \/ X.env.kindOf y.1 = some .free
  fr : frOk X.N X.env.scope.names scope.names N' fr = true
section
variable {X : Cx} {scope : Scope} {N' : List Str} {fr : List (Option Nat)} {pins : List (Addr × Obj)} {σ : St} {H : Hp} {s : Shared} {fp : List Addr}
theorem CompOk.has (c : CompOk X scope N' fr) (ok : X.Ok) : ∀ y ∈ scope.names, y.2 = .free -> ∃ d, X.env.cells.lookup y.1 = some d := fun y hy h => ok.has _ (c.frees y hy h)
theorem inv_comp {C : Addr} {h' : Heap} {tk : Nat} {m : Str -> Option Value} (c : CompOk X scope N' fr) (hc : X.calm = true) (I : Inv X pins σ H s) (hf : ∀ b ∈ fp, FpOk X pins H b) (hlt : ∀ b ∈ fp, b < s.heap.objs.size)
    (old : ∀ b o, s.heap.get? b = some o -> h'.get? b = some o) (hC : s.heap.objs.size <= C) (hn : h'.Ns C m) :
    Inv (cxComp X scope N' fp C s H) pins (stComp fr σ) H { s with heap := h', toks := tk } := by
  have get : ∀ x d, (clOf X.env scope.names []).lookup x = some d -> X.env.cells.lookup x = some d := fun x d e => by
    rcases clOf_get scope.names [] (c.has I.ok) e with q | q
    · simp at q
    · exact q
  have old2 : ∀ b, b < s.heap.objs.size -> b ≠ C := fun b hb => Nat.ne_of_lt (Nat.lt_of_lt_of_le hb hC)
  have hl : (stComp fr σ).length = N'.length := by
    have q := c.fr
    unfold frOk at q
    rw [Bool.and_eq_true] at q
    have q1 : N'.length = fr.length := by simpa using q.1
    rw [stComp, List.length_map, q1]
  refine ⟨⟨I.ok.mod, c.kind, I.ok.glob, I.ok.blt, hC, ?_, ?_, (fun _ _ z => nomatch z), fun _ => I.ok.hd hc, I.ok.frames, .inl rfl, ?_, I.bs, Nat.le_trans I.ok.bsz I.sz, ?_, ?_, I.stack, I.stkFree⟩, rfl, I.bare, Un.kept old, ⟨m, hn, ?_⟩, ?_, I.hok.fresh hC, ?_, ?_, I.hok.kept old, hl⟩
  · exact fun x y d e1 e2 => I.ok.inj x y d (get x d e1) (get y d e2)
  · intro x hx
    have hx' : (relN X.env scope.names).lookup x = some .cell \/ (relN X.env scope.names).lookup x = some .free := hx
    have fin : scope.names.lookup x = some .free -> ∃ d, (clOf X.env scope.names []).lookup x = some d := fun e => clOf_has scope.names [] (PySem.mem_of_lookup e)
    rcases hx' with q | q
    · obtain ⟨k, e, z⟩ := relN_get scope.names q
      rcases z with z | ⟨z, _⟩
      · subst z
        exact absurd rfl (c.cells _ (PySem.mem_of_lookup e))
      · subst z
        exact fin e
    · obtain ⟨k, e, z⟩ := relN_get scope.names q
      rcases z with z | ⟨_, z⟩
      · subst z
        exact fin e
      · cases z
  · exact fun b hb => ⟨old2 b (hlt b hb), fun x d e => (hf b hb).2.2.2.2.1 x d (get x d e)⟩
  · intro b o e hb
    rcases (hf b hb).2.2.2.1 with z | z
    · exact I.ok.noex b o e z
    · exact absurd (Nat.lt_of_lt_of_le (Heap.lt_size e) (Nat.le_trans I.ok.bsz z)) (Nat.lt_irrefl _)
  · intro b hb hs
    rcases List.mem_cons.mp (I.stkSub b hs) with z | z
    · exact (hf b hb).2.1 z
    · exact (hf b hb).2.2.1 z
  · intro i x v e1 e2 e3
    have e2' : (fr.map fun o => o.bind fun j => (σ[j]?).join)[i]? = some (some v) := e2
    rw [List.getElem?_map] at e2'
    cases q : fr[i]? with
    | none => rw [q] at e2'; cases e2'
    | some o =>
      rw [q] at e2'
      have e3' : (o.bind fun j => (σ[j]?).join) = some v := Option.some.inj e2'
      cases o with
      | none => cases e3'
      | some j =>
        have e4 : (σ[j]?).join = some v := e3'
        have e5 : σ[j]? = some (some v) := by
          cases z : σ[j]? with
          | none => rw [z] at e4; cases e4
          | some w => rw [z] at e4; exact congrArg some e4
        obtain ⟨f1, f2, f3⟩ := frOk_at c.fr e1 q
        obtain ⟨m0, hn0, hl0⟩ := I.loc
        have vis : Vis X.env.scope x := f3.elim (fun z => .inr (.inl z)) fun z => .inr (.inr z)
        obtain ⟨u, r, look⟩ := hl0 j x v f1 e5 vis
        refine ⟨u, r, ?_⟩
        rcases look with ⟨k, _⟩ | ⟨k, d, hd, hcell⟩
        · have k' : X.env.scope.names.lookup x = some .local := k
          rcases f3 with z | z <;> (rw [k'] at z; cases z)
        · refine .inr ⟨?_, d, ?_, ?_⟩
          · have e3'' : (relN X.env scope.names).lookup x = some .local \/ (relN X.env scope.names).lookup x = some .cell \/ (relN X.env scope.names).lookup x = some .free := e3
            rcases e3'' with z | z | z
            · obtain ⟨k2, e, z2⟩ := relN_get scope.names z
              rw [f2] at e
              cases e
              rcases z2 with z2 | ⟨_, z2⟩ <;> cases z2
            · exact .inl z
            · exact .inr z
          · obtain ⟨d', e⟩ := clOf_has (env := X.env) scope.names [] (PySem.mem_of_lookup f2)
            have := get x d' e
            rw [hd] at this
            cases this
            exact e
          · obtain ⟨ob, h1, h2⟩ := hcell
            exact ⟨ob, old _ _ h1, h2⟩
  · intro x d e
    obtain ⟨v, ob, h1, h2⟩ := I.cell x d (get x d e)
    exact ⟨v, ob, old _ _ h1, h2⟩
  · exact fun x d e => I.freeC x d (get x d e)
  · intro p hp
    obtain ⟨e, n, ne, nf, dd⟩ := I.pin p hp
    refine ⟨old _ _ e, n, old2 _ (Heap.lt_size e), fun hs => ?_, dd⟩
    rcases List.mem_cons.mp (I.stkSub p.1 hs) with z | z
    · exact ne z
    · exact nf z
end
section
variable {prog : Program} {w : World} {A : Around} {R : Result -> Shared -> Prop} {s : Shared}
theorem comp_loop {elt tg iter : Expr} {ifs : List Expr} {scope : Scope} {pos : Pos} {it acc : Value} {env : Env} (J : Nat -> Shared -> Prop)
    (turn : ∀ n s, J n s -> wpAny (model prog w) A (pyNext it) (fun r s1 => match r with
      | none => R (.ok .next) s1
      | some v => wpAny (model prog w) A (letOwnedTupleGo tg it v) (fun _ s2 => wpAny (model prog w) A (assign tg env v) (fun _ s3 =>
          wpAny (model prog w) A (forIn ifs true fun c r => if r = true then do
            let ok <- isTrue c env (eval c env)
            pure (ForInStep.yield ok) else pure (ForInStep.yield r)) (fun ok s4 =>
              if ok = true then wpAny (model prog w) A (eval elt env) (fun x s5 =>
                wpAny (model prog w) A (call (.builtin "list.append") [acc, x]) (fun _ s6 => ∃ m, m < n /\ J m s6) (fun _ _ => False) s5) (fun _ _ => False) s4
              else ∃ m, m < n /\ J m s4) (fun _ _ => False) s3) (fun _ _ => False) s2) (fun _ _ => False) s1) (fun _ _ => False) s)
    (n : Nat) (h : J n s) : codeAny (model prog w) A (.compLoop (.ListComp elt [⟨tg, iter, ifs, 0⟩] scope pos) 0 it acc env) R s := by
  refine codeAny_loop rfl J (fun k s1 hJ => ?_) n h
  show wpAny _ A ((compTurn (.ListComp elt [⟨tg, iter, ifs, 0⟩] scope pos) 0 it acc env).onRaise (fun y => do noteFrame y env; theTreesLotGoes y)) _ _ s1
  refine wpAny_noted (wpAny_mono (E := fun _ _ => False) ?_ (fun _ _ q => q) fun _ _ z => z.elim)
  rw [compTurn_list]
  refine wpAny_bind (wpAny_standAt (wpAny_bind (thn (turn k s1 hJ) fun r s2 h2 => ?_)))
  cases r with
  | none => exact wpAny_pure h2
  | some v =>
    refine wpAny_bind (thn h2 fun _ s3 h3 => wpAny_bind (thn h3 fun _ s4 h4 => wpAny_bind (thn h4 fun ok s5 h5 => ?_)))
    cases ok with
    | false => exact wpAny_pure ⟨rfl, h5⟩
    | true =>
      refine wpAny_bind (wpAny_bind (thn h5 fun x s6 h6 => wpAny_bind (thn h6 fun _ s7 h7 => ?_)))
      exact wpAny_pure (wpAny_pure ⟨rfl, h7⟩)
end
theorem HOk.track {P : Program} {w : World} {H : Hp} {h : Heap} {a : Addr} {o : HO} (ok : HOk P w H h) (hn : H a = none) (new : ObjOk P w (upd H a o) h a o) : HOk P w (upd H a o) h := fun b u q => by
  by_cases hb : b = a
  · subst hb
    rw [upd_same] at q
    cases q
    exact new
  · rw [upd_ne hb] at q
    exact (ok b u q).stay (fun _ _ _ r => r) (fun c r => by rw [upd_ne (ne_of_none r hn)]; exact r) fun c xs r => by rw [upd_ne (ne_of_none r hn)]; exact r
def CompW (J : It) (g : TG) (tt : TT) (te : TE) (fin : List V -> Hp -> Prop) (W : Nat -> Nat -> List V -> St -> Hp -> Prop) : Prop :=
  ∀ i m ys σ H, W i m ys σ H -> (J.stop i H /\ ys.length <= sizeLine /\ fin ys H) \/ (J.go i H /\ ys.length < sizeLine /\ ∀ x H', J.yld i H x H' -> g x σ H' fun σ2 H2 => tt σ2 H2 fun b H3 =>
    if b = true then te σ2 H3 fun y H4 => ∃ m', m' < m /\ W (i + 1) m' (ys ++ [y]) σ2 H4 else ∃ m', m' < m /\ W (i + 1) m' ys σ2 H3)
section
variable {X : Cx} {scope : Scope} {N' : List Str} {fr : List (Option Nat)} {pins : List (Addr × Obj)} {σ : St} {H : Hp} {s : Shared} {fp : List Addr} {it : Addr} {tn : Nat -> Heap -> Prop} {J : It}
  {elt tg iter : Expr} {ifs : List Expr} {g : TG} {tt : TT} {te : TE} {pos : Pos} {fin : List V -> Hp -> Prop} {W : Nat -> Nat -> List V -> St -> Hp -> Prop} {RR : Value -> Addr -> Result -> Shared -> Prop} {E : Value -> Shared -> Prop}
theorem comp_block (c : CompOk X scope N' fr) (hc : X.calm = true) (I : Inv X pins σ H s) (T : Turn X.prog X.w X.K tg J fp it tn) (st : tn 0 s.heap) (hf : ∀ b ∈ fp, FpOk X pins H b)
    (hg : ∀ fp C s H, PG (cxComp X scope N' fp C s H) tg g) (ht : ∀ fp C s H, PIfs (cxComp X scope N' fp C s H) ifs tt) (he : ∀ fp C s H, PE (cxComp X scope N' fp C s H) elt te)
    (hW : CompW J g tt te fin W) (h0 : ∃ m, W 0 m [] (stComp fr σ) H)
    (hRR : ∀ D C ys H' s', Inv X pins σ (upd H' D (.lst ys)) s' -> (∃ m, s'.heap.Ns C m) -> FpOk X pins (upd H' D (.lst ys)) C -> H' D = none -> fin ys H' -> RR (.ref D) C (.ok .next) s') :
    wpAny (model X.prog X.w) X.A (newList []) (fun acc s3 => wpAny (model X.prog X.w) X.A (newFunctionEnv scope X.env.globals (clOf X.env scope.names []) [] X.env.qual none .none (some X.env)) (fun cenv s4 =>
      codeAny (model X.prog X.w) X.A (.compStart (.ListComp elt [⟨tg, iter, ifs, 0⟩] scope pos) 0 (.ref it) acc { cenv with scope := relabel scope X.env }) (RR acc cenv.locals) s4) E s3) E s := by
  refine wpAny_newObj_type (wpAny_newFunctionEnv c.cells (by intro y hy; simp at hy) (fun h1 hns hsb => ?_) c.kind)
  dsimp only at hns hsb ⊢
  generalize hH2 : s.heap.push { cls := .type "list", dict := none, data := .seq ([] : List Value).toArray } = H2 at hns hsb ⊢
  have hD0 : s.heap.objs.size < H2.objs.size := by rw [<- hH2, Heap.size_push]; exact Nat.lt_succ_self _
  generalize hDD : s.heap.objs.size = D at hD0 ⊢
  generalize hCC : H2.objs.size = C at hns hsb hD0 ⊢
  have up : ∀ b o, s.heap.get? b = some o -> h1.get? b = some o := fun b o e => hsb.extBut b o (by
    have := Heap.lt_size e
    rw [hDD] at this
    exact Nat.ne_of_lt (Nat.lt_trans this hD0)) (Heap.get?_push_of_some _ (by rw [<- hH2]; exact Heap.get?_push_of_some _ e))
  have accD : h1.get? D = some { cls := .type "list", dict := none, data := .seq ([] : List Value).toArray } := hsb.extBut _ _ (Nat.ne_of_lt hD0) (Heap.get?_push_of_some _ (by rw [<- hH2, <- hDD]; exact Heap.get?_push_size _ rfl))
  have hlt : ∀ b ∈ fp, b < s.heap.objs.size := fun b hb => by
    obtain ⟨o, e, _⟩ := T.obj 0 _ st b hb
    exact Heap.lt_size e
  have hle : s.heap.objs.size <= C := by rw [hDD]; exact Nat.le_of_lt hD0
  generalize hX' : cxComp X scope N' fp C s H = X'
  have I1 : Inv X' pins (stComp fr σ) H { s with heap := h1, toks := s.toks + ([] : List (Str × Value)).length } := by
    subst hX'
    exact inv_comp c hc I hf hlt up hle hns
  have st1 : tn 0 h1 := T.keep _ _ _ st fun b hb o e => up b o e
  have pm : X'.prog = X.prog := by subst hX'; rfl
  have wm : X'.w = X.w := by subst hX'; rfl
  have km : X'.K = X.K := by subst hX'; rfl
  have cm : X'.calm = true := by subst hX'; rfl
  have am : X'.A = X.A := by subst hX'; rfl
  have xm : X'.xe = fun _ _ => False := by subst hX'; rfl
  have lm : X'.env.locals = C := by subst hX'; rfl
  have szm : X'.s₀.heap.objs.size = s.heap.objs.size := by subst hX'; rfl
  have nm : X'.pn = X.pn := by subst hX'; rfl
  have hg' := hg fp C s H
  have ht' := ht fp C s H
  have he' := he fp C s H
  have em : X'.env = compEnvC scope (clOf X.env scope.names []) C X.env := by subst hX'; rfl
  have fsm : X'.fs = frs X.stack := by subst hX'; rfl
  have exm : X'.ex = fp := by subst hX'; rfl
  rw [hX'] at hg' ht' he'
  have ageP : ∀ p ∈ X.pn ++ pins, p.1 < D := fun p hp => by rw [<- hDD]; exact Heap.lt_size (I.pin p hp).1
  have ageC : ∀ x d, X'.env.cells.lookup x = some d -> d < D := fun x d e => by
    rw [em] at e
    rcases clOf_get scope.names [] (c.has I.ok) e with q | q
    · simp at q
    · obtain ⟨v, z⟩ := I.cell x d q
      rw [<- hDD]
      exact z.lt
  have cellF : ∀ x d, X'.env.cells.lookup x = some d -> X.env.cells.lookup x = some d := fun x d e => by
    rw [em] at e
    rcases clOf_get scope.names [] (c.has I.ok) e with q | q
    · simp at q
    · exact q
  have fps : ∀ {H' : Hp} {oD : Obj}, (∀ b ∈ fp, H' b = none) -> ∀ b ∈ fp, FpOk X' (pins ++ [(D, oD)]) H' b := fun {H' oD} hn b hb => by
    obtain ⟨_, f1, f2, f3, f4, f5⟩ := hf b hb
    have hbD : b < D := by rw [<- hDD]; exact hlt b hb
    refine ⟨hn b hb, ?_, ?_, .inl (by rw [exm]; exact hb), fun x d e => f4 x d (cellF x d e), fun p hp => ?_⟩
    · rw [lm]; exact Nat.ne_of_lt (Nat.lt_trans hbD hD0)
    · rw [fsm]
      intro hs
      rcases List.mem_cons.mp (I.stkSub b hs) with z | z
      · exact f1 z
      · exact f2 z
    · rw [nm, <- List.append_assoc] at hp
      rcases List.mem_append.mp hp with z | z
      · exact f5 p z
      · rw [List.mem_singleton.mp z]
        exact Nat.ne_of_gt hbD
  have pinD : ∀ {σ' : St} {H' : Hp} {s' : Shared} {its : List Value} {k : Nat}, Inv X' pins σ' H' s' -> s'.heap.get? D = some { cls := .type "list", data := .seq its.toArray k } -> H' D = none ->
      Inv X' (pins ++ [(D, { cls := .type "list", data := .seq its.toArray k })]) σ' H' s' := fun {σ' H' s' its k} J0 e n => J0.pins_of fun p hp => by
    rcases List.mem_append.mp hp with z | z
    · exact J0.pin p (List.mem_append_right _ z)
    · rw [List.mem_singleton.mp z]
      refine ⟨e, n, ?_, ?_, fun v q => by cases q⟩
      · show D ≠ X'.env.locals
        rw [lm]
        exact Nat.ne_of_lt hD0
      · rw [fsm]
        intro hs
        have hb := I.stkSub D hs
        rcases List.mem_cons.mp hb with z | z
        · have := I.lt
          rw [<- z, hDD] at this
          exact Nat.lt_irrefl _ this
        · exact I.nofs (Nat.le_of_eq hDD) z
  have loop : ∀ s0 : Shared, s0 = { s with heap := h1, toks := s.toks + ([] : List (Str × Value)).length } ->
      codeAny (model X.prog X.w) X.A (.compLoop (.ListComp elt [⟨tg, iter, ifs, 0⟩] scope pos) 0 (.ref it) (.ref D) X'.env) (RR (.ref D) C) s0 := by
    rintro s0 rfl
    obtain ⟨m0, w0⟩ := h0
    refine comp_loop (fun n s' => ∃ i ys σ' H' its k, Inv X' pins σ' H' s' /\ tn i s'.heap /\ (∀ b ∈ fp, H' b = none) /\ s'.heap.get? D = some { cls := .type "list", data := .seq (its : List Value).toArray k } /\ H' D = none /\ Vals ys its /\ W i n ys σ' H')
      ?_ m0 ⟨0, [], stComp fr σ, H, [], 0, I1, st1, fun b hb => (hf b hb).1, accD, I.hok.fresh (by rw [hDD]; exact Nat.le_refl _), .nil, w0⟩
    rintro n s1 ⟨i, ys, σ1, H1, its, k, J1, t1, n1, d1, nD1, v1, w1⟩
    have J1' := pinD J1 d1 nD1
    rcases hW i n ys σ1 H1 w1 with ⟨stop, hlen, fi⟩ | ⟨go, hlen, step⟩
    · have a1 := T.done X' pm wm km cm i _ s1 σ1 H1 (fun _ _ => False) J1' (fps n1) t1 stop
      rw [am] at a1
      refine thn a1 fun r s2 ⟨hr, J2⟩ => ?_
      subst hr
      obtain ⟨d2, nD2, _⟩ := J2.pin (D, _) (List.mem_append_right _ (List.mem_append_right _ List.mem_cons_self))
      have u2 : Un (frs X.stack) fp H H1 s.heap s2.heap := by
        have := J2.base
        subst hX'
        exact this
      have hok2 : HOk X.prog X.w (upd H1 D (.lst ys)) s2.heap := by
        have h2 := J2.hok
        rw [pm, wm] at h2
        exact h2.track nD1 ⟨hlen, its, k, v1, d2⟩
      have J3 : Inv X pins σ (upd H1 D (.lst ys)) s2 := by
        refine I.call' (ch := fp) (by have := J2.os; subst hX'; exact this) ⟨fun b o e n hb hx => u2.keep b o e n hb hx, fun b o e n hb hx => u2.slot b o e n hb hx, fun b o e n hx => ?_, fun b o e hx => u2.there b o e hx, fun b xs e => ?_, fun b o u e => ?_, fun b ps e => ?_⟩ hok2 J2.bare fun b hb => ?_
        · have ne : b ≠ D := Nat.ne_of_lt (by rw [<- hDD]; exact Heap.lt_size e)
          rw [upd_ne ne]
          exact u2.free b o e n hx
        · have q := u2.tups b xs e
          rw [upd_ne (ne_of_none q nD1)]
          exact q
        · have q := u2.frzs b o u e
          rw [upd_ne (ne_of_none q nD1)]
          exact q
        · obtain ⟨more, q⟩ := u2.tbls b ps e
          exact ⟨more, by rw [upd_ne (ne_of_none q nD1)]; exact q⟩
        · obtain ⟨_, f1, f2, f3, f4, f5⟩ := hf b hb
          exact ⟨f3, f1, f4, f5⟩
      have nC : (upd H1 D (.lst ys)) C = none := by
        rw [upd_ne (Nat.ne_of_gt hD0)]
        have := J2.free
        rw [lm] at this
        exact this
      refine hRR D C ys H1 s2 J3 ?_ (I.fpOk hle nC) nD1 fi
      obtain ⟨m, hm, _⟩ := J2.loc
      rw [lm] at hm
      exact ⟨m, hm⟩
    · have a1 := T.item X' pm wm km cm i _ s1 σ1 H1 (fun _ _ => False) J1' (fps n1) t1 go
      rw [am] at a1
      refine thn a1 fun r s2 ⟨u, hr, h2⟩ => ?_
      subst hr
      refine thn h2 fun _ s3 ⟨x, H3, J3, r3, y3, t3, n3⟩ => ?_
      have J3' := J3.pinned (fps n3) (T.obj _ _ t3)
      have a3 := hg' _ s3 σ1 H3 x u _ J3' r3 (step x H3 y3)
      rw [pm, wm, am, xm] at a3
      refine thn a3 fun _ s4 ⟨σ4, H4, J4, q4⟩ => ?_
      have a4 := ht' _ s4 σ4 H4 _ J4 q4
      rw [pm, wm, am, xm] at a4
      refine thn a4 fun ok s5 ⟨H5, J5, q5⟩ => ?_
      have keepT : ∀ {σ' : St} {H' : Hp} {s' : Shared}, Inv X' (pins ++ [(D, { cls := .type "list", data := .seq its.toArray k })] ++ pinsAt fp s3.heap) σ' H' s' -> tn (i + 1) s'.heap /\ (∀ b ∈ fp, H' b = none) /\ s'.heap.get? D = some { cls := .type "list", data := .seq its.toArray k } /\ H' D = none /\ Inv X' pins σ' H' s' := fun {σ' H' s'} J0 => by
        refine ⟨T.keep _ _ _ t3 fun b hb o e => (J0.pin (b, o) (List.mem_append_right _ (List.mem_append_right _ (mem_pinsAt hb e)))).1, fun b hb => ?_, ?_, ?_, J0.unpinned.unpinned⟩
        · obtain ⟨o, e, _⟩ := T.obj _ _ t3 b hb
          exact (J0.pin (b, o) (List.mem_append_right _ (List.mem_append_right _ (mem_pinsAt hb e)))).2.1
        · exact (J0.pin (D, _) (List.mem_append_right _ (List.mem_append_left _ (List.mem_append_right _ List.mem_cons_self)))).1
        · exact (J0.pin (D, { cls := .type "list", data := .seq its.toArray k }) (List.mem_append_right _ (List.mem_append_left _ (List.mem_append_right _ List.mem_cons_self)))).2.1
      cases ok with
      | false =>
        obtain ⟨m', hm, w'⟩ := q5
        obtain ⟨e1, e2, e3, e4, e5⟩ := keepT J5
        rw [if_neg Bool.false_ne_true]
        exact ⟨m', hm, i + 1, ys, σ4, H5, its, k, e5, e1, e2, e3, e4, v1, w'⟩
      | true =>
        rw [if_pos rfl]
        have a5 := he' _ s5 σ4 H5 _ J5 q5
        rw [pm, wm, am, xm] at a5
        refine thn a5 fun u6 s6 ⟨y, H6, J6, r6, m', hm, w6⟩ => ?_
        obtain ⟨e1, e2, e3, e4, e5⟩ := keepT J6
        refine append_at (hsz := by show its.toArray.size <= sizeLine; rw [List.size_toArray, <- v1.length]; exact Nat.le_of_lt hlen) e3 fun h7 sb7 d7 => ?_
        have J7 : Inv X' pins σ4 H6 { s6 with heap := h7 } := e5.turned (t' := s6.toks) (it := D) (fun b o hb e => sb7.extBut b o hb e) e4 (by rw [lm]; exact Nat.ne_of_lt hD0) (.inr (by rw [szm, hDD]; exact Nat.le_refl _)) (fun x d e => Nat.ne_of_lt (ageC x d e)) fun p hp => by
          rw [nm] at hp
          exact Nat.ne_of_lt (ageP p hp)
        refine ⟨m', hm, i + 1, ys ++ [y], σ4, H6, its ++ [u6], k + 1, J7, T.keep _ _ _ e1 fun b hb o e => sb7.extBut b o (Nat.ne_of_lt (by rw [<- hDD]; exact hlt b hb)) e, e2, ?_, e4, v1.append (.cons r6 .nil), w6⟩
        rw [d7, List.push_toArray]
  have env1 : ({ newEnv scope C X.env.globals (clOf X.env scope.names []) X.env.qual none .none (some X.env) 0 with scope := relabel scope X.env } : Env) = X'.env := by rw [em]; rfl
  have lp := loop _ rfl
  rw [em] at lp
  exact codeAny_compStart_list lp (T.self _ 0 _ _ _ st1 lp)
def tComp (wi : TI) (fr : List (Option Nat)) (g : TG) (tt : TT) (te : TE) : TE := fun σ H Q => wi σ H fun J H1 =>
  ∃ W, CompW J g tt te (fun ys H' => ∀ p, H' p = none -> Q (.ref p) (upd H' p (.lst ys))) W /\ ∃ m, W 0 m [] (stComp fr σ) H1
theorem pe_comp {wi : TI} (c : CompOk X scope N' fr) (hc : X.calm = true) (hi : PI X tg iter wi) (hg : ∀ fp C s H, PG (cxComp X scope N' fp C s H) tg g) (ht : ∀ fp C s H, PIfs (cxComp X scope N' fp C s H) ifs tt)
    (he : ∀ fp C s H, PE (cxComp X scope N' fp C s H) elt te) (hs : ∀ x, foldedSetIterable iter X.env x = pure x := by intro _; rfl) : PE X (.ListComp elt [⟨tg, iter, ifs, 0⟩] scope pos) (tComp wi fr g tt te) := by
  intro pins s σ H Q I h
  rw [eval_ListComp]
  refine wpAny_comprehension_free (use := none) rfl hs (closure_is (c.has I.ok)) c.kind c.names (thn (hi pins s σ H _ I h) fun v s1 h1 => thn h1 fun itv s2 h2 => ?_)
  obtain ⟨it, fp, tn, J, H2, e, I2, T, st2, f2, W, hW, h0⟩ := h2
  subst e
  refine comp_block c hc I2 T st2 f2 hg ht he hW h0 ?_
  rintro D C ys H' s' J3 ⟨m, hm⟩ ⟨f0, f1, _, f3, f4, f5⟩ nD fi
  exact ⟨m, hm, fun h'' sb => ⟨.ref D, _, J3.turned (t' := s'.toks) (it := C) (fun b o hb e => sb.extBut b o hb e) f0 f1 f3 f4 f5, rfl, fi D nD⟩⟩
def tSetComp (i : Nat) (wi : TI) (fr : List (Option Nat)) (g : TG) (tt : TT) (te : TE) : TS := fun D σ H => wi σ H fun J H1 =>
  ∃ W, CompW J g tt te (fun ys H' => ∀ p, H' p = none -> D.nx (σ.set i (some (.ref p))) (upd H' p (.lst ys))) W /\ ∃ m, W 0 m [] (stComp fr σ) H1
theorem ps_setComp {wi : TI} {i : Nat} {y : Str} {py spos : Pos} (hN : X.N.Nodup) (hi' : X.N[i]? = some y) (hy : Loc X.env.scope y) (c : CompOk X scope N' fr) (hc : X.calm = true) (hi : PI X tg iter wi) (hg : ∀ fp C s H, PG (cxComp X scope N' fp C s H) tg g) (ht : ∀ fp C s H, PIfs (cxComp X scope N' fp C s H) ifs tt)
    (he : ∀ fp C s H, PE (cxComp X scope N' fp C s H) elt te) (hs : ∀ x, foldedSetIterable iter X.env x = pure x := by intro _; rfl)
    (hsw : swapsWith (.ListComp elt [⟨tg, iter, ifs, 0⟩] scope pos) (some (.Name y py)) spos.line X.env = pure true := by rfl) (hf : X.fn y = true \/ X.env.scope.names.lookup y = some .local := by first | exact .inl rfl | exact .inr rfl | assumption) :
    PS X (.Assign [.Name y py] (.ListComp elt [⟨tg, iter, ifs, 0⟩] scope pos) spos) (tSetComp i wi fr g tt te) := by
  intro pins s σ H D I h
  rw [exec_Assign_Name_used _ _ _ _ hsw]
  refine wpAny_bind (wpAny_standAt (wpAny_bind ?_))
  show wpAny _ X.A (do let _ <- comprehension (.ListComp elt [⟨tg, iter, ifs, 0⟩] scope pos) scope X.env _ (newList []) false (eval iter X.env) (some (assign (.Name y py) X.env))) _ _ s
  refine wpAny_bind (thn (wpAny_comprehension_free (use := some (assign (.Name y py) X.env)) (Q := fun _ s' => SP X pins D .next s') rfl hs (closure_is (c.has I.ok)) c.kind c.names
    (thn (hi pins s σ H _ I h) fun v s1 h1 => thn h1 fun itv s2 h2 => ?_)) fun _ s' hq => wpAny_pure (wpAny_pure hq))
  obtain ⟨it, fp, tn, J, H2, e, I2, T, st2, f2, W, hW, h0⟩ := h2
  subst e
  refine comp_block c hc I2 T st2 f2 hg ht he hW h0 ?_
  rintro B C ys H' s' J3 ⟨m, hm⟩ ⟨f0, f1, _, f3, f4, f5⟩ nD fi
  show wpAny _ X.A (assign (.Name y py) X.env (.ref B)) _ _ s'
  refine wpAny_assign_Name (store_ok2 J3 hN hi' hy (show RelV (.ref B) (.ref B) from rfl) (fun s4 J4 ⟨a, sb, ha⟩ => ?_) hf)
  have nCa : C ≠ a := by
    rcases ha with z | z
    · rw [z]; exact f1
    · exact fun q => f4 y a z q.symm
  exact ⟨m, hm.sameBut sb nCa, fun h'' sb2 => ⟨_, _, J4.turned (t' := s4.toks) (it := C) (fun b o hb e => sb2.extBut b o hb e) f0 f1 f3 f4 f5, fi B nD⟩⟩
end
section
variable {X : Cx}
theorem call_isinst : CallR X (.builtin "isinstance") (fun xs H Q => ∃ x c t u b, xs = [x, c] /\ RelV c u /\ TyOf X.K H x t /\ PySem.W.kitOne X.K t u = some b /\ Q (.bl b) H) := by
  intro pins s σ H xs us Q I r h
  obtain ⟨x, c, t, u, b, rfl, rc, ty, e, q⟩ := h
  obtain ⟨u1, u2, rfl, r1, r2⟩ := Vals.two r
  have hu : u2 = u := by
    cases c <;> first
      | exact (show u2 = _ from r2).trans (show u = _ from rc).symm
      | skip
    all_goals (exfalso; obtain ⟨_, rfl⟩ := rc; unfold PySem.W.kitOne PySem.W.kitCls at e; split at e <;> first | (cases ty <;> simp_all) | (simp at e))
  subst hu
  exact isinst_ok I r1 ty e fun tk => ⟨.bl b, H, I.tok tk, rfl, q⟩
inductive SameD (K : PySem.W.Frag) (H : Hp) : Nat -> V -> V -> Prop
  | flat {n : Nat} {x : V} (f : flatV x = true) : SameD K H n x x
  | tup {n : Nat} {a b : Addr} {xs ys : List V} (ha : SqT K H a xs) (hb : SqT K H b ys) (hl : xs.length = ys.length) (h : ∀ (i : Nat) (x y : V), xs[i]? = some x -> ys[i]? = some y -> SameD K H n x y) : SameD K H (n + 1) (.ref a) (.ref b)
  | lst {n : Nat} {a b : Addr} {xs ys : List V} (ha : SqL K H a xs) (hb : SqL K H b ys) (hl : xs.length = ys.length) (h : ∀ (i : Nat) (x y : V), xs[i]? = some x -> ys[i]? = some y -> SameD K H n x y) : SameD K H (n + 1) (.ref a) (.ref b)
theorem eqV_self {x : V} (f : flatV x = true) : eqV x x = true := by
  cases x <;> first | (exact absurd (show false = true from f) Bool.false_ne_true) | rfl | (simp [eqV])
theorem range_all_true (n : Nat) (e : Nat -> Bool) (h : ∀ i, e i = true) : (List.range n).all e = true := by
  rw [List.all_eq_true]; intro i _; exact h i
theorem in1_units {A : Around} : A.in1.units <= A.units + 1 := by
  first
    | exact Nat.le_refl _
    | exact Nat.le_succ _
    | (simp [Around.in1])
theorem SameD.rc {pins : List (Addr × Obj)} {σ : St} {H : Hp} {s : Shared} (I : Inv X pins σ H s) {n : Nat} {x y : V} (h : SameD X.K H n x y) : ∀ (A : Around), A.units + n < cLine -> ∀ (u v : Value), RelV x u -> RelV y v -> SeqAt.EqAt A s u v true := by
  induction h with
  | flat f => intro A hu u v ru rv; have := eqAt_V (A := A) (s := s) ru rv f f; rw [eqV_self f] at this; exact this
  | @tup n a b xs ys ha hb hl _ ih =>
    intro A hu u v ru rv
    cases (show u = Value.ref a from ru)
    cases (show v = Value.ref b from rv)
    by_cases e : a = b
    · subst e; exact SeqAt.EqAt.same _
    · obtain ⟨its, r1, t1, _⟩ := I.tuple ha
      obtain ⟨its2, r2, t2, _⟩ := I.tuple hb
      have hz : its.toArray.size = its2.toArray.size := by simp [<- r1.length, <- r2.length, hl]
      refine SeqAt.EqAt.of_refs e ?_
      have q := SeqAt.RcAt.tuples (e := fun _ => true) (A := A) t1 t2 (by lia) (fun j h1 h2 => ?_)
      · rw [range_all_true _ _ (fun _ => rfl), hz] at q
        simpa using q
      · have l1 : j < xs.length := by have := r1.length; simp at h1; lia
        have l2 : j < ys.length := by lia
        obtain ⟨u1, e1, q1⟩ := r1.get (i := j) (x := xs[j]) (by simp [l1])
        obtain ⟨u2, e2, q2⟩ := r2.get (i := j) (x := ys[j]) (by simp [l2])
        have w1 : its.toArray[j] = u1 := by have := List.getElem?_eq_some_iff.mp e1; simpa using this.2
        have w2 : its2.toArray[j] = u2 := by have := List.getElem?_eq_some_iff.mp e2; simpa using this.2
        rw [w1, w2]
        exact ih j _ _ (by simp [l1]) (by simp [l2]) A.in1 (by have := @in1_units A; lia) _ _ q1 q2
  | @lst n a b xs ys ha hb hl _ ih =>
    intro A hu u v ru rv
    cases (show u = Value.ref a from ru)
    cases (show v = Value.ref b from rv)
    by_cases e : a = b
    · subst e; exact SeqAt.EqAt.same _
    · obtain ⟨its, r1, t1, _⟩ := I.list ha
      obtain ⟨its2, r2, t2, _⟩ := I.list hb
      have hz : its.toArray.size = its2.toArray.size := by simp [<- r1.length, <- r2.length, hl]
      refine SeqAt.EqAt.of_refs e ?_
      have q := SeqAt.RcAt.lists (e := fun _ => true) (A := A) t1.isList t2.isList hz (by lia) (fun j h1 h2 => ?_)
      · rw [range_all_true _ _ (fun _ => rfl)] at q
        exact q
      · have l1 : j < xs.length := by have := r1.length; simp at h1; lia
        have l2 : j < ys.length := by lia
        obtain ⟨u1, e1, q1⟩ := r1.get (i := j) (x := xs[j]) (by simp [l1])
        obtain ⟨u2, e2, q2⟩ := r2.get (i := j) (x := ys[j]) (by simp [l2])
        have w1 : its.toArray[j] = u1 := by have := List.getElem?_eq_some_iff.mp e1; simpa using this.2
        have w2 : its2.toArray[j] = u2 := by have := List.getElem?_eq_some_iff.mp e2; simpa using this.2
        rw [w1, w2]
        exact ih j _ _ (by simp [l1]) (by simp [l2]) A.in1 (by have := @in1_units A; lia) _ _ q1 q2
def rSame (K : PySem.W.Frag) (out : Bool) : R2 := fun x y H Q => ∃ a b xs ys n, x = .ref a /\ y = .ref b /\ ((SqT K H a xs /\ SqT K H b ys) \/ (SqL K H a xs /\ SqL K H b ys)) /\ xs.length = ys.length /\ n <= 64 /\
  (∀ (i : Nat) (x y : V), xs[i]? = some x -> ys[i]? = some y -> SameD K H n x y) /\ Q (.bl out) H
theorem same_items {pins : List (Addr × Obj)} {σ : St} {H : Hp} {s : Shared} (I : Inv X pins σ H s) {A : Around} {n : Nat} {xs ys : List V} {its its2 : List Value} (hu : A.units + n < cLine) (r1 : Vals xs its) (r2 : Vals ys its2) (hl : xs.length = ys.length)
    (h : ∀ (i : Nat) (x y : V), xs[i]? = some x -> ys[i]? = some y -> SameD X.K H n x y) : ∀ j (h1 : j < its.toArray.size) (h2 : j < its2.toArray.size), SeqAt.EqAt A s its.toArray[j] its2.toArray[j] true := by
  intro j h1 h2
  have l1 : j < xs.length := by have := r1.length; simp at h1; lia
  have l2 : j < ys.length := by lia
  obtain ⟨u1, e1, q1⟩ := r1.get (i := j) (x := xs[j]) (by simp [l1])
  obtain ⟨u2, e2, q2⟩ := r2.get (i := j) (x := ys[j]) (by simp [l2])
  have w1 : its.toArray[j] = u1 := by have := List.getElem?_eq_some_iff.mp e1; simpa using this.2
  have w2 : its2.toArray[j] = u2 := by have := List.getElem?_eq_some_iff.mp e2; simpa using this.2
  rw [w1, w2]
  exact (h j _ _ (by simp [l1]) (by simp [l2])).rc I A hu _ _ q1 q2
theorem op_neS (hu : X.A.units + 66 < cLine) : OpR X (compareOp .NotEq) (rSame X.K false) := by
  intro pins s σ H x y v u Q I rx ry h
  obtain ⟨a, b, xs, ys, n, rfl, rfl, hk, hl, hn, hs, q⟩ := h
  cases (show v = Value.ref a from rx)
  cases (show u = Value.ref b from ry)
  have hu1 : X.A.in1.units + n < cLine := by have := @in1_units X.A; lia
  rcases hk with ⟨ha, hb⟩ | ⟨ha, hb⟩
  · obtain ⟨its, r1, t1, _⟩ := I.tuple ha
    obtain ⟨its2, r2, t2, _⟩ := I.tuple hb
    have hz : its.toArray.size = its2.toArray.size := by simp [<- r1.length, <- r2.length, hl]
    refine EqBoolInt.of_rcne (SeqAt.RcNeAt.tuples (e := fun _ => true) t1 t2 (by lia) (same_items I hu1 r1 r2 hl hs)) ?_
    rw [range_all_true _ _ (fun _ => rfl), hz]
    exact ⟨.bl false, H, I, by simp [RelV], q⟩
  · obtain ⟨its, r1, t1, _⟩ := I.list ha
    obtain ⟨its2, r2, t2, _⟩ := I.list hb
    have hz : its.toArray.size = its2.toArray.size := by simp [<- r1.length, <- r2.length, hl]
    refine EqBoolInt.of_rcne (SeqAt.RcNeAt.lists (e := fun _ => true) t1.isList t2.isList hz (by lia) (same_items I hu1 r1 r2 hl hs)) ?_
    rw [range_all_true _ _ (fun _ => rfl)]
    exact ⟨.bl false, H, I, rfl, q⟩
def rNil (K : PySem.W.Frag) (neg : Bool) : R2 := fun x y H Q => ∃ a b xs, x = .ref a /\ y = .ref b /\ SqL K H a xs /\ SqL K H b [] /\ Q (.bl (neg ^^ decide (xs = []))) H
theorem op_eqNil (hu : X.A.units + 66 < cLine) : OpR X (compareOp .Eq) (rNil X.K false) := by
  intro pins s σ H x y v u Q I rx ry h
  obtain ⟨a, b, xs, rfl, rfl, ha, hb, q⟩ := h
  cases (show v = Value.ref a from rx)
  cases (show u = Value.ref b from ry)
  obtain ⟨its, r1, t1, _⟩ := I.list ha
  obtain ⟨its2, r2, t2, _⟩ := I.list hb
  have z2 : its2 = [] := Vals.zero r2
  subst z2
  cases xs with
  | nil =>
    have z1 : its = [] := Vals.zero r1
    subst z1
    exact SeqAt.eq_listAt (e := fun _ => true) t1.isList t2.isList rfl (by lia) (fun j h1 _ => absurd h1 (by simp)) ⟨.bl true, H, I, by simp [RelV], by simpa using q⟩
  | cons x xs =>
    have hl := r1.length
    exact SeqAt.eq_list_lengthsAt t1.isList t2.isList (by simp [<- hl]) (by lia) ⟨.bl false, H, I, rfl, by simpa using q⟩
theorem op_neNil (hu : X.A.units + 66 < cLine) : OpR X (compareOp .NotEq) (rNil X.K true) := by
  intro pins s σ H x y v u Q I rx ry h
  obtain ⟨a, b, xs, rfl, rfl, ha, hb, q⟩ := h
  cases (show v = Value.ref a from rx)
  cases (show u = Value.ref b from ry)
  obtain ⟨its, r1, t1, _⟩ := I.list ha
  obtain ⟨its2, r2, t2, _⟩ := I.list hb
  have z2 : its2 = [] := Vals.zero r2
  subst z2
  cases xs with
  | nil =>
    have z1 : its = [] := Vals.zero r1
    subst z1
    exact EqBoolInt.of_rcne (SeqAt.RcNeAt.lists (e := fun _ => true) t1.isList t2.isList rfl (by lia) (fun j h1 _ => absurd h1 (by simp))) ⟨.bl false, H, I, by simp [RelV], by simpa using q⟩
  | cons x xs =>
    have hl := r1.length
    exact EqBoolInt.of_rcne (SeqAt.RcNeAt.lists_lengths t1.isList t2.isList (by simp [<- hl]) (by lia)) ⟨.bl true, H, I, rfl, by simpa using q⟩
theorem kept_iter {h h' : Heap} {o : Obj} (hk : ∀ b u, b ∉ [h.objs.size] -> (h.push o).get? b = some u -> h'.get? b = some u) : ∀ b u, h.get? b = some u -> h'.get? b = some u := fun b u e =>
  hk b u (fun hm => absurd (Heap.lt_size e) (by rw [List.mem_singleton.mp hm]; exact Nat.lt_irrefl _)) (Heap.get?_push_of_some _ e)
theorem bools_at {bs : List Bool} {its : List Value} (r : Vals (bs.map V.bl) its) {i : Nat} {v : Value} (e : its.toArray[i]? = some v) : v = .bool (bs.getD i false) := by
  have e' : its[i]? = some v := by simpa using e
  have hl : i < its.length := (List.getElem?_eq_some_iff.mp e').1
  have hb : i < bs.length := by have := r.length; rw [List.length_map] at this; lia
  obtain ⟨u, e1, q⟩ := r.get (i := i) (x := V.bl bs[i]) (by simp [hb])
  rw [e1] at e'
  cases e'
  have e3 : v = Value.bool bs[i] := q
  rw [e3]
  simp [List.getD, hb]
end
section
variable {X : Cx} {pins : List (Addr × Obj)} {σ : St} {H : Hp} {s : Shared}
theorem Inv.turnM {ch : List Addr} {t' : Nat} {h' : Heap} (I : Inv X pins σ H s) (hf : ∀ b ∈ ch, FpOk X pins H b) (k : ∀ b u, b ∉ ch -> s.heap.get? b = some u -> h'.get? b = some u) : Inv X pins σ H { s with heap := h', toks := t' } := by
  have nch : ∀ b u, H b = some u -> b ∉ ch := fun b u e z => by have := (hf b z).1; rw [this] at e; cases e
  refine I.step (g' := s.gens) (d' := s.drawn) (ch := ch) (fun b hb => ⟨(hf b hb).2.2.2.1, (hf b hb).2.1, (hf b hb).2.2.2.2.1, (hf b hb).2.2.2.2.2⟩) (fun b o _ _ hc e _ => k b o hc e) (fun b o _ _ hc e _ => ⟨o.slots, k b o hc e⟩) (fun _ _ _ _ n => n)
    (fun b o hc e => ⟨o, k b o hc e⟩) (fun _ _ e => e) (fun _ _ _ e => e) (fun b ps e => ⟨#[], by rw [e]; simp⟩) (fun m hm => ?_) (fun b u e => ?_) I.bare
  · obtain ⟨o, es, ep, ho, r⟩ := hm
    exact ⟨o, es, ep, k _ o (fun z => (hf _ z).2.1 rfl) ho, r⟩
  · refine (I.hok b u e).stay (fun c v hc q => k c v ?_ q) (fun _ q => q) fun _ _ q => q
    rcases hc with z | z
    · rw [z]; exact nch b u e
    · exact nch c _ z
theorem Inv.turnNew {ch : List Addr} {T : Addr} {o : HO} {t' : Nat} {h' : Heap} (I : Inv X pins σ H s) (hf : ∀ b ∈ ch, FpOk X pins H b) (k : ∀ b u, b ∉ ch -> s.heap.get? b = some u -> h'.get? b = some u) (hT : s.heap.objs.size <= T)
    (new : ObjOk X.prog X.w (upd H T o) h' T o) : Inv X pins σ (upd H T o) { s with heap := h', toks := t' } := by
  have nch : ∀ b u, H b = some u -> b ∉ ch := fun b u e z => by have := (hf b z).1; rw [this] at e; cases e
  have nT : H T = none := I.hok.fresh hT
  have neT : ∀ b u, s.heap.get? b = some u -> b ≠ T := fun b u e => Nat.ne_of_lt (Nat.lt_of_lt_of_le (Heap.lt_size e) hT)
  refine I.step (g' := s.gens) (d' := s.drawn) (ch := ch) (fun b hb => ⟨(hf b hb).2.2.2.1, (hf b hb).2.1, (hf b hb).2.2.2.2.1, (hf b hb).2.2.2.2.2⟩) (fun b o _ _ hc e _ => k b o hc e) (fun b o _ _ hc e _ => ⟨o.slots, k b o hc e⟩) (fun b u _ e n => by rw [upd_ne (neT b u e)]; exact n)
    (fun b o hc e => ⟨o, k b o hc e⟩) (fun b xs e => by rw [upd_ne (ne_of_none e nT)]; exact e) (fun b o u e => by rw [upd_ne (ne_of_none e nT)]; exact e) (fun b ps e => ⟨#[], by rw [upd_ne (ne_of_none e nT), e]; simp⟩) (fun m hm => ?_) (fun b u e => ?_) I.bare
  · obtain ⟨o, es, ep, ho, r⟩ := hm
    exact ⟨o, es, ep, k _ o (fun z => (hf _ z).2.1 rfl) ho, r⟩
  · by_cases hb : b = T
    · subst hb
      rw [upd_same] at e
      cases e
      exact new
    · rw [upd_ne hb] at e
      refine (I.hok b u e).stay (fun c v hc q => k c v ?_ q) (fun c r => by rw [upd_ne (ne_of_none r nT)]; exact r) fun c xs r => by rw [upd_ne (ne_of_none r nT)]; exact r
      rcases hc with z | z
      · rw [z]; exact nch b u e
      · exact nch c _ z
end
inductive Kd | l | t
def ItAt (k : Kd) (h : Heap) (it a : Addr) (i : Nat) : Prop := match k with | .l => h.IsListIter it a i | .t => h.IsTupleIter it a i
def SqK (k : Kd) (K : PySem.W.Frag) (H : Hp) (a : Addr) (xs : List V) : Prop := match k with | .l => SqL K H a xs | .t => SqT K H a xs
def SeqIs (k : Kd) (h : Heap) (a : Addr) (its : List Value) : Prop := match k with | .l => h.IsList a its.toArray | .t => h.IsTuple a its.toArray
def iterTy : Kd -> String | .l => "list_iterator" | .t => "tuple_iterator"
theorem Inv.seq {X : Cx} {pins : List (Addr × Obj)} {σ : St} {H : Hp} {s : Shared} (I : Inv X pins σ H s) {k : Kd} {a : Addr} {xs : List V} (h : SqK k X.K H a xs) : ∃ its : List Value, Vals xs its /\ SeqIs k s.heap a its /\ xs.length <= sizeLine := by
  cases k with
  | l => obtain ⟨its, r, t, z⟩ := I.list h; exact ⟨its, r, t.isList, z⟩
  | t => obtain ⟨its, r, t, z⟩ := I.tuple h; exact ⟨its, r, t, z⟩
theorem ItAt.kept {k : Kd} {h h' : Heap} {it a : Addr} {i : Nat} (q : ItAt k h it a i) (e : ∀ o, h.get? it = some o -> h'.get? it = some o) : ItAt k h' it a i := by
  cases k with
  | l => obtain ⟨o, ho, r⟩ := (show h.IsListIter it a i from q); exact ⟨o, e _ ho, r⟩
  | t => obtain ⟨o, ho, r⟩ := (show h.IsTupleIter it a i from q); exact ⟨o, e _ ho, r⟩
theorem ItAt.obj {k : Kd} {h : Heap} {it a : Addr} {i : Nat} (q : ItAt k h it a i) : ∃ o, h.get? it = some o /\ ∀ v, o.data ≠ .cell v := by
  cases k with
  | l => obtain ⟨o, ho, _, d⟩ := (show h.IsListIter it a i from q); exact ⟨o, ho, fun v z => by rw [d] at z; cases z⟩
  | t => obtain ⟨o, ho, _, d⟩ := (show h.IsTupleIter it a i from q); exact ⟨o, ho, fun v z => by rw [d] at z; cases z⟩
section
variable {prog : Program} {w : World} {A : Around} {E : Value -> Shared -> Prop} {s : Shared}
theorem next_tup {it t : Addr} {i : Nat} {its : List Value} {x : Value} {Q : Value -> Shared -> Prop} (hi : s.heap.IsTupleIter it t i) (ht : s.heap.IsTuple t its.toArray) (hx : its[i]? = some x)
    (q : ∀ h', h'.IsTupleIter it t (i + 1) -> Heap.SameBut it s.heap h' -> Q x { s with heap := h' }) : wpAny (model prog w) A (Builtin.SmallTypes.nextOf (.ref it)) Q E s := by
  obtain ⟨oi, gi, ci, di⟩ := id hi
  obtain ⟨ot, gt, _, nt, dt⟩ := ht
  have hx' : its.toArray[i]? = some x := by simpa using hx
  unfold Builtin.SmallTypes.nextOf
  refine wpAny_bind (wpAny_callSpecial?_slot (name := Str.ofString "__next__") hi.typeIs F.slot_tuple_iterator_next (wpAny_call_entry F.slot_tuple_iterator_next hi.typeIs F.entry_tuple_iterator_next ?_ (F.args_tuple_iterator_next_1 _)))
  show wpAny _ _ (field (Value.ref it) 0 >>= _) _ _ s
  refine wpAny_bind (wpAny_field gi di (x := Value.ref t) rfl ?_)
  rw [if_neg (show ¬ ((Value.ref t == Value.none) = true) by intro z; cases z)]
  refine wpAny_bind (wpAny_field gi di (x := Value.int i 0) rfl ?_)
  refine wpAny_bind (wpAny_seqItems gt dt ?_)
  simp only [Int.toNat_natCast, hx']
  refine wpAny_bind (wpAny_setField gi di (by simp) (wpAny_pure ⟨x, rfl, wpAny_pure (q _ ?_ (Heap.SameBut.update ..))⟩))
  refine ⟨_, Heap.get?_update_self _ gi (Obj.isFreed_of_fields (Obj.data_mapFields di _)), (Obj.cls_mapFields ..).trans ci, ?_⟩
  rw [Obj.data_mapFields di]
  simp [rawInt]
theorem end_tup {it t : Addr} {i : Nat} {its : List Value} {Q : Value -> Shared -> Prop} (hh : A.handled = none) (hi : s.heap.IsTupleIter it t i) (ht : s.heap.IsTuple t its.toArray) (hx : its.length <= i)
    (q : ∀ h' e, Heap.ExtBut it s.heap h' -> (∃ o, h'.get? e = some o /\ o.cls = .type "StopIteration") -> E (.ref e) { s with heap := h' }) : wpAny (model prog w) A (Builtin.SmallTypes.nextOf (.ref it)) Q E s := by
  obtain ⟨oi, gi, ci, di⟩ := id hi
  obtain ⟨ot, gt, _, nt, dt⟩ := ht
  have hx' : its.toArray[i]? = none := by simpa using hx
  unfold Builtin.SmallTypes.nextOf
  refine wpAny_bind (wpAny_callSpecial?_slot (name := Str.ofString "__next__") hi.typeIs F.slot_tuple_iterator_next (wpAny_call_entry F.slot_tuple_iterator_next hi.typeIs F.entry_tuple_iterator_next ?_ (F.args_tuple_iterator_next_1 _)))
  show wpAny _ _ (field (Value.ref it) 0 >>= _) _ _ s
  refine wpAny_bind (wpAny_field gi di (x := Value.ref t) rfl ?_)
  rw [if_neg (show ¬ ((Value.ref t == Value.none) = true) by intro z; cases z)]
  refine wpAny_bind (wpAny_field gi di (x := Value.int i 0) rfl ?_)
  refine wpAny_bind (wpAny_seqItems gt dt ?_)
  simp only [Int.toNat_natCast, hx']
  refine wpAny_bind (wpAny_rule (wpAny_bind (wpAny_setField gi di (by simp) (wpAny_bind ?_))))
  simp only [newExc, newTuple]
  refine wpAny_bind (wpAny_newObj_type (wpAny_bind (m := firstArgMember _ _) (wpAny_of_eq (a := Value.none) ?_ (wpAny_newObj_type ?_ (by size_fits)))) (by size_fits))
  · first | rfl | (simp only [firstArgMember]; rfl)
  simp only [raiseNew]
  refine wpAny_bind (wpAny_handled ?_)
  first | rw [show A.in1.handled = none from hh] | rw [hh]
  exact wpAny_bind (wpAny_pure (wpAny_throw (q _ _ (((Heap.SameBut.update ..).extBut.push _).push _) ⟨_, Heap.get?_push_size _ rfl, rfl⟩)))
theorem next_seq {k : Kd} {it a : Addr} {i : Nat} {its : List Value} {x : Value} {Q : Value -> Shared -> Prop} (hi : ItAt k s.heap it a i) (hs : SeqIs k s.heap a its) (hx : its[i]? = some x)
    (q : ∀ h', ItAt k h' it a (i + 1) -> Heap.SameBut it s.heap h' -> Q x { s with heap := h' }) : wpAny (model prog w) A (Builtin.SmallTypes.nextOf (.ref it)) Q E s := by
  cases k with
  | l => exact wpAny_nextOf_list_item hi hs (by simpa using hx) q
  | t => exact next_tup hi hs hx q
theorem end_seq {k : Kd} {it a : Addr} {i : Nat} {its : List Value} {Q : Value -> Shared -> Prop} (hh : A.handled = none) (hi : ItAt k s.heap it a i) (hs : SeqIs k s.heap a its) (hx : its.length <= i)
    (q : ∀ h' e, Heap.ExtBut it s.heap h' -> (∃ o, h'.get? e = some o /\ o.cls = .type "StopIteration") -> E (.ref e) { s with heap := h' }) : wpAny (model prog w) A (Builtin.SmallTypes.nextOf (.ref it)) Q E s := by
  cases k with
  | l => exact wpAny_nextOf_list_end hh hi hs (by simpa using hx) q
  | t => exact end_tup hh hi hs hx q
end
open AutoSeq1 (wpAny_loadPart')
section
variable {prog : Program} {w : World} {A : Around} {E : Value -> Shared -> Prop} {s : Shared}
theorem enum_step {k : Kd} {e it a : Addr} {i : Nat} {its : List Value} {x old : Value} {Q : Value -> Shared -> Prop} (he : IsEnum s.heap e it i old) (hi : ItAt k s.heap it a i) (hs : SeqIs k s.heap a its) (hx : its[i]? = some x) (ne : e ≠ it)
    (q : ∀ h', IsEnumOut h' e it ((i : Int) + 1) x s.heap.objs.size -> ItAt k h' it a (i + 1) -> h'.get? s.heap.objs.size = some { cls := .type "tuple", data := .seq #[.int i s.toks, x] } ->
      (∀ b o, b ≠ e -> b ≠ it -> s.heap.get? b = some o -> h'.get? b = some o) -> Q (.ref s.heap.objs.size) { s with heap := h', toks := s.toks + 1 }) :
    wpAny (model prog w) A (Builtin.«enumerate.__next__» ⟨[.ref e], []⟩) (fun fin s' => ∃ v, fin = .done (.ret v) /\ Q v s') E s := by
  obtain ⟨hp, g, d, tk, os⟩ := s
  show wpAny _ _ (field (Value.ref e) 2 >>= _) _ _ _
  refine wpAny_bind (wpAny_field he rfl (x := Value.ref it) rfl (wpAny_bind (next_seq hi hs hx fun g1 i1 b1 => ?_)))
  replace b1 : Heap.SameBut it hp g1 := b1
  have e1 : IsEnum g1 e it i old := (b1.2 e ne).trans he
  refine wpAny_bind (wpAny_field (s := ⟨g1, g, d, tk, os⟩) e1 rfl (x := rawInt i) rfl (wpAny_bind (wpAny_field (s := ⟨g1, g, d, tk, os⟩) e1 rfl (x := Value.none) rfl ?_)))
  refine wpAny_bind (wpAny_mkInt (wpAny_bind (wpAny_setField_rec (s := ⟨g1, g, d, tk + 1, os⟩) e1 (by simp) fun g2 e2 b2 => ?_)))
  replace b2 : Heap.SameBut e g1 g2 := b2
  replace e2 : IsEnum g2 e it ((i : Int) + 1) old := e2
  refine wpAny_bind (wpAny_setField_rec (s := ⟨g2, g, d, tk + 1, os⟩) e2 (by simp) fun g3 e3 b3 => ?_)
  replace b3 : Heap.SameBut e g2 g3 := b3
  replace e3 : IsEnum g3 e it ((i : Int) + 1) old := e3
  refine wpAny_bind (wpAny_newTuple ?_)
  have hz : g3.objs.size = hp.objs.size := by rw [b3.1, b2.1, b1.1]
  have el : e < hp.objs.size := Heap.lt_size he
  obtain ⟨oi, gi, _⟩ := hi.obj
  have il : it < hp.objs.size := Heap.lt_size gi
  have e4 : IsEnum (g3.push { cls := .type "tuple", data := .seq #[.int i tk, x] }) e it ((i : Int) + 1) old := Heap.get?_push_of_some _ e3
  have t4 : (g3.push { cls := .type "tuple", data := .seq #[.int i tk, x] }).get? hp.objs.size = some { cls := .type "tuple", data := .seq #[.int i tk, x] } := by rw [<- hz]; exact Heap.get?_push_size _ rfl
  have k4 : ∀ b o, b ≠ e -> b ≠ it -> hp.get? b = some o -> (g3.push { cls := .type "tuple", data := .seq #[.int i tk, x] }).get? b = some o := fun b o h1 h2 h3 =>
    Heap.get?_push_of_some _ (b3.extBut b o h1 (b2.extBut b o h1 (b1.extBut b o h2 h3)))
  have i4 : ItAt k (g3.push { cls := .type "tuple", data := .seq #[.int i tk, x] }) it a (i + 1) := i1.kept fun o h => Heap.get?_push_of_some _ (b3.extBut it o ne.symm (b2.extBut it o ne.symm h))
  show wpAny _ _ (Builtin.SmallTypes.ownedTupleIsFree (Value.ref e) >>= _) _ _ ⟨g3.push { cls := .type "tuple", data := .seq #[.int i tk, x] }, g, d, tk + 1, os⟩
  rw [hz]
  generalize g3.push { cls := .type "tuple", data := .seq #[.int i tk, x] } = g4 at e4 t4 k4 i4
  refine wpAny_bind ?_
  unfold Builtin.SmallTypes.ownedTupleIsFree
  refine wpAny_bind (wpAny_field e4 rfl (x := Value.none) rfl (wpAny_pure ?_))
  simp only [if_true]
  refine wpAny_bind (wpAny_rule (wpAny_bind (wpAny_field e4 rfl (x := old) rfl (wpAny_bind (wpAny_setField_rec e4 (by simp) fun g5 e5 b5 => ?_)))))
  replace b5 : Heap.SameBut e g4 g5 := b5
  replace e5 : IsEnum g5 e it ((i : Int) + 1) x := e5
  refine wpAny_bind ?_
  unfold Builtin.SmallTypes.ownedTupleHandOut
  refine wpAny_bind (wpAny_setField_rec e5 (by simp) fun g6 e6 b6 => ?_)
  replace b6 : Heap.SameBut e g5 g6 := b6
  replace e6 : IsEnumOut g6 e it ((i : Int) + 1) x hp.objs.size := e6
  refine wpAny_setField_rec e6 (by simp) fun g7 e7 b7 => ?_
  replace b7 : Heap.SameBut e g6 g7 := b7
  replace e7 : IsEnumOut g7 e it ((i : Int) + 1) x hp.objs.size := e7
  have up : ∀ b o, b ≠ e -> g4.get? b = some o -> g7.get? b = some o := fun b o h1 h2 => b7.extBut b o h1 (b6.extBut b o h1 (b5.extBut b o h1 h2))
  exact wpAny_bind (wpAny_letGo (wpAny_pure ⟨_, rfl, q g7 e7 (i4.kept fun o h => up it o ne.symm h) (up _ _ (Nat.ne_of_gt el) t4) fun b o h1 h2 h3 => up b o h1 (k4 b o h1 h2 h3)⟩))
theorem enum_item {k : Kd} {e it a : Addr} {i : Nat} {its : List Value} {x old : Value} {Q : Option Value -> Shared -> Prop} (he : IsEnum s.heap e it i old) (hi : ItAt k s.heap it a i) (hs : SeqIs k s.heap a its) (hx : its[i]? = some x) (ne : e ≠ it)
    (q : ∀ h', IsEnumOut h' e it ((i : Int) + 1) x s.heap.objs.size -> ItAt k h' it a (i + 1) -> h'.get? s.heap.objs.size = some { cls := .type "tuple", data := .seq #[.int i s.toks, x] } ->
      (∀ b o, b ≠ e -> b ≠ it -> s.heap.get? b = some o -> h'.get? b = some o) -> Q (some (.ref s.heap.objs.size)) { s with heap := h', toks := s.toks + 1 }) :
    wpAny (model prog w) A (pyNext (.ref e)) Q E s := by
  have ty : s.TypeIs (.ref e) "enumerate" := ⟨_, he, rfl⟩
  unfold pyNext
  exact wpAny_bind (wpAny_attempt (wpAny_callSpecial?_slot (name := Str.ofString "__next__") ty F.slot_enumerate_next (wpAny_call_entry F.slot_enumerate_next ty F.entry_enumerate_next
      (enum_step he hi hs hx ne fun h' a b c d => wpAny_pure (q h' a b c d)) (F.args_enumerate_next_1 _))))
theorem enum_done {k : Kd} {e it a : Addr} {i : Nat} {its : List Value} {old : Value} {Q : Option Value -> Shared -> Prop} (hh : A.handled = none) (he : IsEnum s.heap e it i old) (hi : ItAt k s.heap it a i) (hs : SeqIs k s.heap a its) (hx : its.length <= i)
    (q : ∀ h', Heap.ExtBut it s.heap h' -> Q none { s with heap := h' }) : wpAny (model prog w) A (pyNext (.ref e)) Q E s := by
  have ty : s.TypeIs (.ref e) "enumerate" := ⟨_, he, rfl⟩
  unfold pyNext
  refine wpAny_bind (wpAny_attempt (wpAny_callSpecial?_slot (name := Str.ofString "__next__") ty F.slot_enumerate_next (wpAny_call_entry F.slot_enumerate_next ty F.entry_enumerate_next ?_ (F.args_enumerate_next_1 _))))
  show wpAny _ _ (field (Value.ref e) 2 >>= _) _ _ _
  refine wpAny_bind (wpAny_field he rfl (x := Value.ref it) rfl (wpAny_bind (end_seq hh hi hs hx fun h' z k1 k2 => ?_)))
  obtain ⟨o, ho, hc⟩ := k2
  exact wpAny_bind (wpAny_isInstance (T := "StopIteration") (b := true) ⟨o, ho, hc⟩ isSubtype_stop (wpAny_pure (q _ k1)))
theorem enum_new_tup (t : Addr) (items : Array Value) (n : Nat) (dct : Option Addr) (sl : Array (Option Value)) :
    Meets (Builtin.«enumerate.__new__» ⟨[.type "enumerate", .ref t], []⟩) (fun _ R s => s.heap.get? t = some { cls := .type "tuple", dict := dct, data := .seq items n, slots := sl } /\
      R (.ok (.ret (.ref (s.heap.push { cls := .type "tuple_iterator", data := .fields #[.ref t, .int 0 0] }).objs.size)))
        { s with heap := (s.heap.push { cls := .type "tuple_iterator", data := .fields #[.ref t, .int 0 0] }).push { cls := .type "enumerate", data := .fields #[.none, .bool false, .ref s.heap.objs.size, rawInt 0, .none, .none] } }) :=
  .of_wp fun prog w A R s h => by
    obtain ⟨hp, g, d, tk, os⟩ := s
    obtain ⟨ht, h⟩ := h
    have hsub := sub_enumerate
    have hT : Heap.IsTuple (Shared.heap ⟨hp, g, d, tk, os⟩) t items := ⟨_, ht, rfl, n, rfl⟩
    wp_walk using wpAny_loadPart' ht
    refine wpAny_stack_any fun st => wpAny_pure ?_
    split
    · rename_i c _ _ _ _ _
      cases (c == Value.type "enumerate") <;>
      · wp_walk using wpAny_loadPart' ht, wpAny_pyIter_tuple hT
        exact ⟨_, rfl, h⟩
    · wp_walk using wpAny_loadPart' ht, wpAny_pyIter_tuple hT
      exact ⟨_, rfl, h⟩
theorem call_enum {k : Kd} {a : Addr} {its : List Value} {Q : Value -> Shared -> Prop} (hs : SeqIs k s.heap a its)
    (q : ∀ h', IsEnum h' (s.heap.objs.size + 1) s.heap.objs.size 0 .none -> ItAt k h' s.heap.objs.size a 0 -> (∀ b o, s.heap.get? b = some o -> h'.get? b = some o) -> Q (.ref (s.heap.objs.size + 1)) { s with heap := h' }) :
    wpAny (model prog w) A (call (.type "enumerate") [.ref a]) Q E s := by
  cases k with
  | l => exact call_enumerate_list hs fun h' a b _ d => q h' a b d
  | t =>
    obtain ⟨⟨c, dct, dt, sl⟩, ht, hc, n, hd⟩ := (show s.heap.IsTuple a its.toArray from hs)
    replace hc : c = .type "tuple" := hc
    replace hd : dt = .seq its.toArray n := hd
    subst hc hd
    refine callType_new F.called_enumerate (by decide) (F.typeCall_enumerate_1 _) (F.newCall_enumerate_1 _) (fun obj => F.args_object_init_2 obj _) F.entry_enumerate_new (enum_new_tup a its.toArray n dct sl) ⟨ht, ?_⟩
    have z : (s.heap.push { cls := .type "tuple_iterator", data := .fields #[.ref a, .int 0 0] }).objs.size = s.heap.objs.size + 1 := Heap.size_push ..
    show _ /\ _
    have e1 := Heap.get?_push_size (s.heap.push { cls := .type "tuple_iterator", data := .fields #[.ref a, .int 0 0] }) (o := { cls := .type "enumerate", data := .fields #[.none, .bool false, .ref s.heap.objs.size, rawInt 0, .none, .none] }) rfl
    rw [z] at e1 ⊢
    exact ⟨⟨_, e1, rfl⟩, q _ e1 ⟨_, Heap.get?_push_of_some _ (Heap.get?_push_size _ rfl), rfl, rfl⟩ fun b o x => Heap.get?_push_of_some _ (Heap.get?_push_of_some _ x)⟩
end
def ItE (k : Kd) (K : PySem.W.Frag) (a : Addr) : It :=
  ⟨fun i H => ∃ xs x, SqK k K H a xs /\ xs[i]? = some x, fun i H x H' => ∃ p y, H p = none /\ x = .ref p /\ (∀ xs, SqK k K H a xs -> xs[i]? = some y) /\ H' = upd H p (.tup [.int i, y]), fun i H => ∃ xs, SqK k K H a xs /\ xs.length <= i⟩
theorem Inv.seq_inj {X : Cx} {pins : List (Addr × Obj)} {σ : St} {H : Hp} {s : Shared} (I : Inv X pins σ H s) {k : Kd} {a : Addr} {xs ys : List V} (h : SqK k X.K H a xs) (h' : SqK k X.K H a ys) : xs = ys := by
  cases k with
  | l => exact I.list_inj h h'
  | t => exact I.tuple_inj h h'
theorem turn_enum {P : Program} {w : World} {K : PySem.W.Frag} {elts : List Expr} {x1 : Nat} {tpos : Pos} (k : Kd) (a e it : Addr) (ne : e ≠ it) : Turn P w K (.Tuple elts x1 tpos) (ItE k K a) [e, it] e (fun i h => (∃ old, IsEnum h e it i old) /\ ItAt k h it a i) where
  mem := by simp
  obj := fun i h st b hb => by
    obtain ⟨⟨old, q⟩, r⟩ := st
    rcases List.mem_cons.mp hb with rfl | hb
    · exact ⟨_, q, fun v z => by cases z⟩
    · rw [List.mem_singleton.mp hb]; exact r.obj
  keep := fun i h h' st kk => ⟨let ⟨old, q⟩ := st.1; ⟨old, kk e (by simp) _ q⟩, st.2.kept fun o x => kk it (by simp) o x⟩
  item := by
    intro X hP hw hK hc i pins s σ H E I hf st hg
    subst hP hw hK
    obtain ⟨⟨old, he⟩, hi⟩ := st
    obtain ⟨xs, x, hq, hx⟩ := hg
    obtain ⟨its, r, hs, hz⟩ := I.seq hq
    obtain ⟨u, e1, ru⟩ := r.get hx
    refine enum_item he hi hs e1 ne fun h' a1 a2 a3 a4 => ⟨_, rfl, ?_⟩
    refine wpAny_letOwnedTupleGo_enum (s := { s with heap := h', toks := s.toks + 1 }) a1 fun h2 b1 b2 => ?_
    replace b2 : Heap.SameBut e h' h2 := b2
    have el : e < s.heap.objs.size := Heap.lt_size he
    have kk : ∀ b o, b ∉ [e, it] -> s.heap.get? b = some o -> h2.get? b = some o := fun b o hb q => by
      simp at hb
      exact b2.extBut b o hb.1 (a4 b o hb.1 hb.2 q)
    have tt : h2.get? s.heap.objs.size = some { cls := .type "tuple", data := .seq #[.int i s.toks, u] } := b2.extBut _ _ (Nat.ne_of_gt el) a3
    have fr : H s.heap.objs.size = none := I.hok.fresh (Nat.le_refl _)
    refine ⟨.ref s.heap.objs.size, upd H s.heap.objs.size (.tup [.int i, x]), I.turnNew hf kk (Nat.le_refl _) ?_, rfl, ⟨_, x, fr, rfl, fun ys hy => ?_, rfl⟩, ⟨⟨u, ?_⟩, a2.kept fun o q => b2.extBut it o ne.symm q⟩, fun b hb => ?_⟩
    · exact ⟨by show 2 <= sizeLine; decide, [.int i s.toks, u], .cons ⟨_, rfl⟩ (.cons ru .nil), ⟨_, tt, rfl, 0, rfl⟩⟩
    · rw [I.seq_inj hy hq]; exact hx
    · have : ((i + 1 : Nat) : Int) = (i : Int) + 1 := by push_cast; rfl
      rw [this]; exact b1
    · rw [upd_ne]
      · exact (hf b hb).1
      · rcases List.mem_cons.mp hb with rfl | hb
        · exact Nat.ne_of_lt el
        · rw [List.mem_singleton.mp hb]
          obtain ⟨o, q, _⟩ := hi.obj
          exact Nat.ne_of_lt (Heap.lt_size q)
  done := by
    intro X hP hw hK hc i pins s σ H E I hf st hg
    subst hP hw hK
    obtain ⟨⟨old, he⟩, hi⟩ := st
    obtain ⟨xs, hq, hx⟩ := hg
    obtain ⟨its, r, hs, hz⟩ := I.seq hq
    refine enum_done (I.ok.hd hc) he hi hs (by rw [<- r.length]; exact hx) fun h' q => ⟨rfl, I.turnM (t' := s.toks) hf fun b o hb z => q b o (fun y => hb (by simp [y])) z⟩
  self := fun _ _ _ _ _ st h => let ⟨⟨_, he⟩, _⟩ := st; wpAny_pyIter_enum he h
def iEnum (k : Kd) (K : PySem.W.Frag) (ta : TA) : TI := fun σ H R => ta σ H fun vs H1 => ∃ a xs, vs = [.ref a] /\ SqK k K H1 a xs /\ R (ItE k K a) H1
theorem boot_enumerate' : bootBuiltins "enumerate" = some (.type "enumerate") := by first | rfl | decide +kernel
theorem pi_enum {X : Cx} {elts : List Expr} {x1 : Nat} {tpos : Pos} {l : Expr} {ta : TA} {p pos : Pos} (k : Kd) (hg : Gl X "enumerate") (hm : X.mg "enumerate" = none) (ha : PA X [l] ta) (hs : starEach [l] X.env = [(false, eval l X.env)] := by rfl) :
    PI X (.Tuple elts x1 tpos) (.Call (.Name "enumerate" p) [l] [] pos) (iEnum k X.K ta) := by
  intro pins s σ H R I h
  refine Call_ (ld_blt I hg hm boot_enumerate' (PyProof.Rows.callWith_type1 (thn (ha pos pins s σ H _ I h) fun us s1 ⟨vs, H1, I1, r1, q1⟩ => ?_) hs rfl))
  obtain ⟨a, xs, rfl, hq, q⟩ := q1
  obtain ⟨u, rfl, ru⟩ := Vals.one r1
  cases (show u = Value.ref a from ru)
  obtain ⟨its, r, hsq, hz⟩ := I1.seq hq
  refine call_enum hsq fun h' a1 a2 a3 => wpAny_pyIter_enum (s := { s1 with heap := h' }) a1 ?_
  refine ⟨s1.heap.objs.size + 1, [s1.heap.objs.size + 1, s1.heap.objs.size], _, _, H1, rfl, I1.kept (t' := s1.toks) a3, turn_enum k a _ _ (Nat.succ_ne_self _), ⟨⟨_, a1⟩, a2⟩, fun b hb => ?_, q⟩
  rcases List.mem_cons.mp hb with rfl | hb
  · exact I1.fpOk (Nat.le_succ _) (I1.hok.fresh (Nat.le_succ _))
  · rw [List.mem_singleton.mp hb]; exact I1.fpOk (Nat.le_refl _) (I1.hok.fresh (Nat.le_refl _))
open AutoSeq1 (wpAny_loadPart')
structure ZipAt (h : Heap) (k1 k2 : Kd) (z TI TO i1 i2 l1 l2 : Addr) (f0 : Value) (n : Nat) : Prop where
  zz : IsZip h z TI TO f0
  ti : IsPair h TI (.ref i1) (.ref i2)
  to : ∃ a b, IsPair h TO a b
  a1 : ItAt k1 h i1 l1 n
  a2 : ItAt k2 h i2 l2 n
structure ZipNe (z TI TO i1 i2 : Addr) : Prop where
  TIz : TI ≠ z
  TOz : TO ≠ z
  i1z : i1 ≠ z
  i2z : i2 ≠ z
  TITO : TI ≠ TO
  TIi1 : TI ≠ i1
  TIi2 : TI ≠ i2
  TOi1 : TO ≠ i1
  TOi2 : TO ≠ i2
  i12 : i1 ≠ i2
section
variable {prog : Program} {w : World} {A : Around} {E : Value -> Shared -> Prop} {s : Shared}
abbrev zp1 (k1 : Kd) (h : Heap) (l1 : Addr) : Heap := h.push { cls := .type (iterTy k1), data := .fields #[.ref l1, .int 0 0] }
abbrev zp2 (k1 k2 : Kd) (h : Heap) (l1 l2 : Addr) : Heap := (zp1 k1 h l1).push { cls := .type (iterTy k2), data := .fields #[.ref l2, .int 0 0] }
abbrev zp3 (k1 k2 : Kd) (h : Heap) (l1 l2 : Addr) : Heap := (zp2 k1 k2 h l1 l2).push { cls := .type "tuple", data := .seq #[.ref h.objs.size, .ref (zp1 k1 h l1).objs.size] }
abbrev zp4 (k1 k2 : Kd) (h : Heap) (l1 l2 : Addr) : Heap := (zp3 k1 k2 h l1 l2).push { cls := .type "tuple", data := .seq #[.none, .none] }
abbrev zp5 (k1 k2 : Kd) (h : Heap) (l1 l2 : Addr) : Heap := (zp4 k1 k2 h l1 l2).push { cls := .type "zip", data := .fields #[.none, .bool false, .bool false, .ref (zp2 k1 k2 h l1 l2).objs.size, .ref (zp3 k1 k2 h l1 l2).objs.size] }
end
def ItZ (k1 k2 : Kd) (K : PySem.W.Frag) (a b : Addr) : It :=
  ⟨fun i H => ∃ xs ys x y, SqK k1 K H a xs /\ SqK k2 K H b ys /\ xs[i]? = some x /\ ys[i]? = some y,
   fun i H v H' => ∃ p x y, H p = none /\ v = .ref p /\ (∀ xs, SqK k1 K H a xs -> xs[i]? = some x) /\ (∀ ys, SqK k2 K H b ys -> ys[i]? = some y) /\ H' = upd H p (.tup [x, y]),
   fun i H => ∃ xs, SqK k1 K H a xs /\ xs.length <= i⟩
def iZip (k1 k2 : Kd) (K : PySem.W.Frag) (ta : TA) : TI := fun σ H R => ta σ H fun vs H1 => ∃ a b xs ys, vs = [.ref a, .ref b] /\ SqK k1 K H1 a xs /\ SqK k2 K H1 b ys /\ R (ItZ k1 k2 K a b) H1
def Itc (lo c : Int) (n : Nat) : It := ⟨fun i _ => i < n, fun i H x H' => H' = H /\ x = .int (lo + i * c), fun i _ => n <= i⟩
def iRng3 (ta : TA) : TI := fun σ H R => ta σ H fun vs H1 => ∃ a b c : Int, vs = [.int a, .int b, .int c] /\ c ≠ 0 /\ c.natAbs < 1073741824 /\ Builtin.Range.small a b c = true /\ R (Itc a c (Builtin.Range.rangeSize a b c).toNat) H1
structure Src (K : PySem.W.Frag) (mg : Str -> Option Value) (x : Str) (st : Stmt) (ps : List Str) : Prop where
  ex : ∃ f fd, Fun K x x st f fd /\ Binds K fd ps [] /\ mg x = some (.ref f)
structure Def (P : Program) (w : World) (K : PySem.W.Frag) (mg : Str -> Option Value) (base : Heap) (k : Nat) (x : Str) (ps : List Str) (sp : Sp) : Prop where
  ex : ∃ f fd, FnOk P w K mg base CX0 k f fd ps sp /\ Binds K fd ps [] /\ mg x = some (.ref f) /\ PySem.W.keepIn K (.ref f) = true
theorem Src.def {P : Program} {w : World} {K : PySem.W.Frag} {mg : Str -> Option Value} {base : Heap} {k : Nat} {x : Str} {st : Stmt} {N ps : List Str} {sp : Sp} (S : Src K mg x st ps) (sc : FnScope N ps (defScope st)) (len : ∀ vs H Q E, sp vs H Q E -> vs.length = ps.length)
    (hbody : ∀ (f : Addr) (cdv : Value) (A : Around) (outer : List Env) (s : Shared) (H : Hp) (vs : List V) (Q : VK) (E : XK), Room k (A.deeper (envOfC x (defScope st) s.heap.objs.size f cdv)) -> sp vs H Q E ->
      ∃ t, PSs (cxOf CX0 P w K mg base N x (defScope st) f cdv A outer s H E).nox (defBody st) t /\ t { nx := fun _ H' => Q .non H', rt := Q } (start N vs) H) : Def P w K mg base (k + 1) x ps sp := by
  obtain ⟨f, fd, F, b, m⟩ := S.ex
  exact ⟨f, fd, F.ok sc len (hbody f), b, m, F.kp⟩
theorem pe_def {X : Cx} {k : Nat} {x : Str} {ps : List Str} {sp : Sp} {e : Expr} {es : List Expr} {t : TA} {p pos : Pos} (D : Def X.prog X.w X.K X.mg X.base k x ps sp) (hr : Room k X.A) (hg : Gl X x) (ha : PA X (e :: es) t)
    (hdb : (x == ("__debug__" : Str)) = false := by decide) (he : starEach (e :: es) X.env = (false, eval e X.env) :: starEach es X.env := by rfl) (hpl : (backTo pos (starEach es X.env)).any (·.1) = false := by rfl) :
    PE X (.Call (.Name x p) (e :: es) [] pos) (tCall sp [] E0 t) := by
  obtain ⟨f, fd, F, b, m, kp⟩ := D.ex
  exact pe_call F hr hg m kp b .nil pass0 ha hdb he hpl
theorem Same.tup {K : PySem.W.Frag} {H H' : Hp} {a : Addr} {xs : List V} (e : Same H H') (h : SqT K H a xs) : SqT K H' a xs := by
  rcases h with (h | ⟨o, h⟩) | h
  · exact .inl (.inl (e _ _ h))
  · exact .inl (.inr ⟨o, e _ _ h⟩)
  · exact .inr h
theorem Same.seqK {K : PySem.W.Frag} {H H' : Hp} {k : Kd} {a : Addr} {xs : List V} (e : Same H H') (h : SqK k K H a xs) : SqK k K H' a xs := by
  cases k with
  | l => exact e.seq h
  | t => exact e.tup h
theorem Same.new {H : Hp} {p : Addr} {o : HO} (h : H p = none) : Same H (upd H p o) := fun b u e => by rw [upd_ne (ne_of_none e h)]; exact e
theorem Paired.at {α β : Type} {F : α -> β -> Prop} : ∀ {l₁ : List α} {l₂ : List β}, Paired F l₁ l₂ -> ∀ {i : Nat} {a : α}, l₁[i]? = some a -> ∃ b, l₂[i]? = some b /\ F a b
  | _, _, .nil, i, a, e => by simp at e
  | _, _, .cons r t, 0, a, e => by simp at e; subst e; exact ⟨_, rfl, r⟩
  | _, _, .cons r t, i + 1, a, e => by
    obtain ⟨b, h1, h2⟩ := Paired.at t (i := i) (by simpa using e)
    exact ⟨b, by simpa using h1, h2⟩
theorem Paired.snoc {α β : Type} {F : α -> β -> Prop} : ∀ {l₁ : List α} {l₂ : List β}, Paired F l₁ l₂ -> ∀ {a : α} {b : β}, F a b -> Paired F (l₁ ++ [a]) (l₂ ++ [b])
  | _, _, .nil, _, _, h => .cons h .nil
  | _, _, .cons r t, _, _, h => .cons r (Paired.snoc t h)
theorem take_succ_of {α : Type} {l : List α} {i : Nat} {a : α} (h : l[i]? = some a) : l.take (i + 1) = l.take i ++ [a] := by
  rw [List.take_add_one, h]; rfl
def ItK (k : Kd) (K : PySem.W.Frag) (a : Addr) : It := match k with | .l => Itl K a | .t => Itt K a
def iSeq (k : Kd) (K : PySem.W.Frag) (tl : TE) : TI := fun σ H R => tl σ H fun x H1 => ∃ a, x = .ref a /\ (∃ xs, SqK k K H1 a xs) /\ R (ItK k K a) H1
theorem pi_seq {X : Cx} {tg : Expr} (k : Kd) {l : Expr} {tl : TE} (hl : PE X l tl) : PI X tg l (iSeq k X.K tl) := by
  cases k with
  | l => exact pi_list hl
  | t => exact pi_tup hl
theorem itk_go {k : Kd} {K : PySem.W.Frag} {H : Hp} {a : Addr} {xs : List V} {i : Nat} (h : SqK k K H a xs) (hi : i < xs.length) : (ItK k K a).go i H := by
  cases k with
  | l => exact ⟨xs, xs[i], h, by simp [hi]⟩
  | t => exact ⟨xs, xs[i], h, by simp [hi]⟩
theorem itk_stop {k : Kd} {K : PySem.W.Frag} {H : Hp} {a : Addr} {xs : List V} {i : Nat} (h : SqK k K H a xs) (hi : xs.length <= i) : (ItK k K a).stop i H := by
  cases k with
  | l => exact ⟨xs, h, hi⟩
  | t => exact ⟨xs, h, hi⟩
theorem itk_yld {k : Kd} {K : PySem.W.Frag} {H H' : Hp} {a : Addr} {xs : List V} {i : Nat} {x : V} (h : SqK k K H a xs) (y : (ItK k K a).yld i H x H') : H' = H /\ xs[i]? = some x := by
  cases k with
  | l => exact ⟨y.1, y.2 xs h⟩
  | t => exact ⟨y.1, y.2 xs h⟩
theorem comp_seq {k : Kd} {K : PySem.W.Frag} {a : Addr} {xs : List V} {g : TG} {tt : TT} {te : TE} {fin : List V -> Hp -> Prop} {σ : St} {H : Hp} (S : St -> Prop) (Pv : Nat -> List V -> Hp -> Prop) (hσ : S σ) (h0 : Pv 0 [] H) (hz : xs.length < sizeLine)
    (hl : ∀ i ys H, i <= xs.length -> Pv i ys H -> SqK k K H a xs)
    (hs : ∀ (i : Nat) (x : V) (ys : List V) (σ : St) (H : Hp) (N : List V -> St -> Hp -> Prop), xs[i]? = some x -> S σ -> Pv i ys H -> (∀ ys' σ' H', S σ' -> Pv (i + 1) ys' H' -> ys'.length <= ys.length + 1 -> N ys' σ' H') ->
      g x σ H fun σ2 H2 => tt σ2 H2 fun b H3 => if b = true then te σ2 H3 fun y H4 => N (ys ++ [y]) σ2 H4 else N ys σ2 H3)
    (hd : ∀ ys H, Pv xs.length ys H -> fin ys H) : ∃ W, CompW (ItK k K a) g tt te fin W /\ ∃ m, W 0 m [] σ H := by
  refine ⟨fun i m ys σ H => m = xs.length - i /\ i <= xs.length /\ ys.length <= i /\ S σ /\ Pv i ys H, ?_, xs.length, by simp, Nat.zero_le _, Nat.le_refl _, hσ, h0⟩
  rintro i m ys σ H ⟨rfl, hi, hy, hS, p⟩
  have q := hl i ys H hi p
  by_cases hlt : i < xs.length
  · refine .inr ⟨itk_go q hlt, by lia, fun x H' y => ?_⟩
    obtain ⟨e, hy2⟩ := itk_yld q y
    subst e
    have := hs i x ys σ H' (fun ys' σ' H'' => ∃ m', m' < xs.length - i /\ m' = xs.length - (i + 1) /\ i + 1 <= xs.length /\ ys'.length <= i + 1 /\ S σ' /\ Pv (i + 1) ys' H'') hy2 hS p (fun ys' σ' H'' a b c => ⟨_, by lia, rfl, hlt, by lia, a, b⟩)
    exact this
  · have e : i = xs.length := by lia
    subst e
    exact .inl ⟨itk_stop q (Nat.le_refl _), by lia, hd ys H p⟩
theorem for_enum {k : Kd} {K : PySem.W.Frag} {a : Addr} {xs : List V} {g : TG} {tb : TS} {D : Ends} {σ : St} {H : Hp} (Pv : Nat -> St -> Hp -> Prop) (h0 : Pv 0 σ H) (hl : ∀ i σ H, i <= xs.length -> Pv i σ H -> SqK k K H a xs)
    (hs : ∀ (i : Nat) x p σ H, xs[i]? = some x -> Pv i σ H -> H p = none -> g (.ref p) σ (upd H p (.tup [.int i, x])) fun σ2 H2 => tb { D with nx := Pv (i + 1), ct := Pv (i + 1), bk := D.nx } σ2 H2) (hd : ∀ σ H, Pv xs.length σ H -> D.nx σ H) :
    ∃ W : Nat -> Nat -> St -> Hp -> Prop, (∃ m, W 0 m σ H) /\ ∀ i m σ H, W i m σ H ->
      ((ItE k K a).stop i H /\ D.nx σ H) \/ ((ItE k K a).go i H /\ ∃ N : St -> Hp -> Prop, (∀ σ' H', N σ' H' -> ∃ m', m' < m /\ W (i + 1) m' σ' H') /\ ∀ x H', (ItE k K a).yld i H x H' -> g x σ H' fun σ2 H2 => tb { D with nx := N, ct := N, bk := D.nx } σ2 H2) := by
  refine ⟨fun i m σ H => m = xs.length - i /\ i <= xs.length /\ Pv i σ H, ⟨xs.length, by simp, Nat.zero_le _, h0⟩, ?_⟩
  rintro i m σ H ⟨rfl, hi, p⟩
  have q := hl i σ H hi p
  by_cases hlt : i < xs.length
  · refine .inr ⟨⟨xs, xs[i], q, by simp [hlt]⟩, Pv (i + 1), fun σ' H' p' => ⟨xs.length - (i + 1), by lia, rfl, hlt, p'⟩, fun x H' y => ?_⟩
    obtain ⟨r, y, hn, rfl, hy, rfl⟩ := y
    exact hs i y r σ H (hy xs q) p hn
  · have e : i = xs.length := by lia
    subst e
    exact .inl ⟨⟨xs, q, Nat.le_refl _⟩, hd σ H p⟩
theorem units66 {A : Around} {k : Nat} (hr : Room k A) : A.units + 66 < cLine := by have := hr.un; lia
def compB (kinds : List (Str × NameKind)) (N : List Str) (scope : Scope) (N' : List Str) (fr : List (Option Nat)) : Bool :=
  (scope.kind == .function) && (scope.names.all fun y => y.2 != .cell) && (scope.names.all fun y => y.2 != .local || scope.names.lookup y.1 == some .local) &&
  (scope.names.all fun y => y.2 != .free || (kinds.lookup y.1 == some .cell || kinds.lookup y.1 == some .free)) && frOk N kinds scope.names N' fr
theorem compOk_of {X : Cx} {scope : Scope} {N' : List Str} {fr : List (Option Nat)} (h : compB X.env.scope.names X.N scope N' fr = true) : CompOk X scope N' fr := by
  unfold compB at h
  simp only [Bool.and_eq_true, List.all_eq_true] at h
  obtain ⟨⟨⟨⟨h1, h2⟩, h3⟩, h4⟩, h5⟩ := h
  refine ⟨by simpa using h1, fun y hy => by simpa using h2 y hy, fun y hy e => ?_, fun y hy e => ?_, h5⟩
  · have := h3 y hy
    rw [e] at this
    simpa using this
  · have := h4 y hy
    rw [e] at this
    simpa [Env.kindOf] using this
theorem yesT {σ : St} {H : Hp} {A B : Hp -> Prop} (h : A H) : tYes σ H fun b H3 => if b = true then A H3 else B H3 := by
  show if true = true then A H else B H
  exact iteT h
section
open PySem.SeqAt
open PySem.AutoSeq1 (wpAny_loadPart')
open PySem.MeetsSeq PySem.MeetsSeq2 PySem.MeetsSeq3
def LeAt (A : Around) (s : Shared) (v u : Value) (r : Bool) : Prop := ∀ (prog : Program) (w : World) (E : Value -> Shared -> Prop) (Q : Value -> Shared -> Prop), Q (.bool r) s -> wpAny (model prog w) A (richCompare .LtE v u) Q E s
inductive CmpL (A : Around) (s : Shared) (z : Bool) : List Value -> List Value -> Bool -> Prop
  | nilL (ws : List Value) : CmpL A s z [] ws z
  | nilR (v : Value) (vs : List Value) : CmpL A s z (v :: vs) [] z
  | eq {v u : Value} {vs ws : List Value} {b : Bool} (e : EqAt A s v u true) (t : CmpL A s z vs ws b) : CmpL A s z (v :: vs) (u :: ws) b
  | ne {v u : Value} {vs ws : List Value} {r : Bool} (e : EqAt A s v u false) (t : LeAt A s v u r) : CmpL A s z (v :: vs) (u :: ws) r
end
def lexLe (z : Bool) : List Int -> List Int -> Bool
  | [], _ => z
  | _ :: _, [] => z
  | x :: xs, y :: ys => if x = y then lexLe z xs ys else decide (x <= y)
section
variable {X : Cx}
def rLeP (K : PySem.W.Frag) : R2 := fun x y H Q => ∃ a b i j p q ns ms, x = .ref a /\ y = .ref b /\ SqT K H a [.int i, .ref p] /\ SqT K H b [.int j, .ref q] /\ SqT K H p (ns.map V.int) /\ SqT K H q (ms.map V.int) /\ (i = j -> ns ≠ ms) /\
  Q (.bl (if i = j then lexLe (decide (ns.length <= ms.length)) ns ms else decide (i <= j))) H
def rCat0 (K : PySem.W.Frag) : R2 := fun x y H Q => ∃ a b ys, x = .ref a /\ y = .ref b /\ SqT K H a [] /\ SqT K H b ys /\ Q (.ref b) H
end
theorem comp_range {lo : Int} {n : Nat} {g : TG} {tt : TT} {te : TE} {fin : List V -> Hp -> Prop} {σ : St} {H : Hp} (S : St -> Prop) (Pv : Nat -> List V -> Hp -> Prop) (hσ : S σ) (h0 : Pv 0 [] H) (hz : n < sizeLine)
    (hs : ∀ (i : Nat) (ys : List V) (σ : St) (H : Hp) (N : List V -> St -> Hp -> Prop), i < n -> S σ -> Pv i ys H -> (∀ ys' σ' H', S σ' -> Pv (i + 1) ys' H' -> ys'.length <= ys.length + 1 -> N ys' σ' H') ->
      g (.int (lo + i)) σ H fun σ2 H2 => tt σ2 H2 fun b H3 => if b = true then te σ2 H3 fun y H4 => N (ys ++ [y]) σ2 H4 else N ys σ2 H3)
    (hd : ∀ ys H, Pv n ys H -> fin ys H) : ∃ W, CompW (Itr lo n) g tt te fin W /\ ∃ m, W 0 m [] σ H := by
  refine ⟨fun i m ys σ H => m = n - i /\ i <= n /\ ys.length <= i /\ S σ /\ Pv i ys H, ?_, n, by simp, Nat.zero_le _, Nat.le_refl _, hσ, h0⟩
  rintro i m ys σ H ⟨rfl, hi, hy, hS, p⟩
  by_cases hlt : i < n
  · refine .inr ⟨hlt, by omega, fun x H' y => ?_⟩
    obtain ⟨e, y⟩ := y
    subst e y
    exact hs i ys σ _ (fun ys' σ' H'' => ∃ m', m' < n - i /\ m' = n - (i + 1) /\ i + 1 <= n /\ ys'.length <= i + 1 /\ S σ' /\ Pv (i + 1) ys' H'') hlt hS p (fun ys' σ' H'' a b c => ⟨_, by omega, rfl, hlt, by omega, a, b⟩)
  · have e : i = n := by omega
    subst e
    exact .inl ⟨Nat.le_refl _, by omega, hd ys H p⟩
def splitA (c : Nat) : List Nat -> List Nat -> List (List Nat)
  | cur, [] => [cur]
  | cur, x :: xs => if x = c then cur :: splitA c [] xs else splitA c (cur ++ [x]) xs
def cutsAt (c : Nat) : Nat -> List Nat -> List Nat
  | _, [] => []
  | k, x :: xs => if x = c then k :: cutsAt c (k + 1) xs else cutsAt c (k + 1) xs
def glue (c : Nat) : List (List Nat) -> List Nat
  | [] => []
  | [p] => p
  | p :: q :: r => p ++ c :: glue c (q :: r)
def mkS (l : List Nat) : Str := ⟨l.toArray⟩
section
variable {X : Cx}
def rSplit : V -> List V -> Hp -> VK -> Prop := fun x vs H Q => ∃ (z : Str) (c : Nat), x = .str z /\ vs = [.str ⟨#[c]⟩] /\ c < 256 /\ z.length < 1000 /\ ∀ p, H p = none -> Q (.ref p) (upd H p (.lst ((splitA c [] z.cps.toList).map fun l => V.str (mkS l))))
def TJ := St -> Hp -> Str -> (Str -> Hp -> Prop) -> Prop
def PJ (X : Cx) (es : List Expr) (t : TJ) : Prop := ∀ (pins : List (Addr × Obj)) (s : Shared) (σ : St) (H : Hp) (acc : Str) (Q : Str -> Hp -> Prop), Inv X pins σ H s -> t σ H acc Q ->
  Joins (model X.prog X.w) X.A X.xe (evalEach es X.env) acc (fun out s1 => ∃ H', Inv X pins σ H' s1 /\ Q out H') s
def tJ0 : TJ := fun _ H acc Q => Q acc H
def tJ1 (te : TE) (tr : TJ) : TJ := fun σ H acc Q => te σ H fun v H1 => ∃ y, v = .str y /\ (acc ++ y).length <= sizeLine /\ tr σ H1 (acc ++ y) Q
def rJoin (K : PySem.W.Frag) : V -> List V -> Hp -> VK -> Prop := fun x vs H Q => ∃ (z : Str) (l : Addr) (ys : List Str), x = .str z /\ vs = [.ref l] /\ SqL K H l (ys.map V.str) /\ (ys.map (·.length)).sum + ys.length * z.length <= 16777216 /\ Q (.str (Txt.join z ys)) H
def Its (z : Str) : It := ⟨fun i _ => i < z.cps.size, fun i H x H' => H' = H /\ ∃ c, z.cps[i]? = some c /\ x = .str ⟨#[c]⟩, fun i _ => z.cps.size <= i⟩
def iStr (tl : TE) : TI := fun σ H R => tl σ H fun x H1 => ∃ z, x = .str z /\ z.cps.all (· < 128) = true /\ R (Its z) H1
end
def CXr (P : Program) (w : World) : CXT := fun outer H s E e s' => ∃ (ea C : Addr) (a0 : Value) (B : Heap) (H' : Hp), e = .ref ea /\ s'.os = s.os /\ AllBare s'.gens /\ Un (frs outer) [] H H' s.heap s'.heap /\ HOk P w H' s'.heap /\
  Heap.FlyingW B outer ea (.ref C) a0 s'.heap /\ (∀ b o, s'.heap.get? b = some o -> ((∃ q, s.heap.get? b = some q) \/ ∃ q, H' b = some q) -> b ∉ frs outer -> B.get? b = some o) /\ E (.ref C) none H'
section
variable {P : Program} {w : World} {K : PySem.W.Frag} {mg : Str -> Option Value} {base : Heap} {N : List Str} {qual : Str} {scope : Scope} {f : Addr} {cd : Value} {A : Around} {outer : List Env} {s0 : Shared} {H0 : Hp} {E : XK}
end
abbrev bmVE : List Value := [.type "ValueError", .type "Exception", .type "BaseException", .type "object"]
structure ExcAt (h : Heap) (C : Addr) (bm : List Value) : Prop where
  ex : ∃ (N : Addr) (nm qn : Str) (bs : List Value) (hd : Bool) (sn : List Str) (sub : List Value) (ab : Bool) (col : Option Bool) (dd : Option Addr) (k0 k1 k2 k3 k5 : Option Value) (mN : Str -> Option Value),
    h.get? C = some (excClassObj nm qn C N bs bm hd sn sub ab col dd k0 k1 k2 k3 k5 "ValueError.__new__") /\ h.Ns N mN /\ mN "__init__" = none /\ OwnTail h bmVE bm
def excB (K : PySem.W.Frag) (C : Addr) (bm : List Value) : Bool := PySem.W.excIn K C bmVE "ValueError.__new__" && (match K.lookup C with | some o => (match o.data with | .cls cd => cd.mro == .ref C :: bm | _ => false) | _ => false)
section
variable {P : Program} {w : World} {K : PySem.W.Frag} {mg : Str -> Option Value} {base : Heap} {N : List Str} {qual : Str} {scope : Scope} {f : Addr} {cd : Value} {A : Around} {outer : List Env} {s0 : Shared} {H0 : Hp} {E : XK}
def tRaise (C : Addr) (E : XK) (ta : TA) : TS := fun _ σ H => ta σ H fun vs H1 => vs.length <= 100 /\ E (.ref C) none H1
end
end L2
namespace L2
open PySem PySem.Spec PyProof.Rows PySem.W
def excKB (K : Frag) (C : Addr) : Bool :=
  findIn K (.ref C) "__getattribute__" == some (some (.builtin "BaseException.__getattribute__")) && findIn K (.ref C) "__getattr__" == some none && findIn K (.ref C) "__class__" == some (some (.builtin "object.__class__"))
    && subIn K (.ref C) (.type "BaseException") == some true && subIn K (.ref C) (.type "object") == some true && (clsIn K C).isSome
structure ExcK (K : Frag) (C : Addr) : Prop where
  g1 : findIn K (.ref C) "__getattribute__" = some (some (.builtin "BaseException.__getattribute__"))
  g2 : findIn K (.ref C) "__getattr__" = some none
  g3 : findIn K (.ref C) "__class__" = some (some (.builtin "object.__class__"))
  g4 : subIn K (.ref C) (.type "BaseException") = some true
  g5 : subIn K (.ref C) (.type "object") = some true
  g6 : (clsIn K C).isSome = true
section
variable {K : Frag} {prog : Program} {w : World} {A : Around} {E : Value -> Shared -> Prop} {h : Heap} {g : Array GenState} {d : Drawn} {t : Nat} {os : OsState} {a C : Addr} {o : Obj}
end
def ExcObj (a C : Addr) (h : Heap) : Prop := ∃ o, h.get? a = some o /\ o.cls = .ref C
def excO (a C : Addr) : HO := .ext (ExcObj a C)
section
variable {X : Cx}
end
end L2
namespace L2
open PySem PySem.Spec PyProof.Rows PySem.W
section
variable {X : Cx} {pins : List (Addr × Obj)} {σ : St} {H H' : Hp} {s s' : Shared}
end
def Cx.marked (X : Cx) (v : Value) : Cx := { X with A := X.A.mark (some v), calm := false, xe := fun _ _ => False }
section
variable {X : Cx} {pins : List (Addr × Obj)} {σ : St} {H H' : Hp} {s s' : Shared} {v : Value}
end
structure DefX (P : Program) (w : World) (K : PySem.W.Frag) (mg : Str -> Option Value) (base : Heap) (k : Nat) (x : Str) (ps : List Str) (sp : Sp) : Prop where
  ex : ∃ f fd, FnOk P w K mg base (CXr P w) k f fd ps sp /\ Binds K fd ps [] /\ mg x = some (.ref f) /\ PySem.W.keepIn K (.ref f) = true
def tTry (K : Frag) (sp : Sp) (ta : TA) (i : Nat) (W : Addr) (tb : TS) : TS := fun D σ H => ta σ H fun vs H1 => sp (vs ++ []) H1 (fun _ H2 => D.nx σ H2) fun c _ H2 => ∃ C, c = .ref C /\ subIn K (.ref C) (.ref W) = some true /\
  ∀ ea, H2 ea = none -> tb { nx := fun σ' H' => D.nx (σ'.set i none) H', rt := D.rt } (σ.set i (some (.ref ea))) (upd H2 ea (excO ea C))
end L2
namespace L2
open PySem PySem.Spec PyProof.Rows
open PySem.AutoSeq1 (wpAny_loadPart')
section
variable {prog : Program} {w : World} {A : Around} {E : Value -> Shared -> Prop} {s : Shared}
theorem code_collect_range {R : Result -> Shared -> Prop} {r : Addr} {a b c : Int} {t u v : Tok} {n : Nat} (hh : A.handled = none) (hr : IsRange s.heap r a b c t u v) (hsm : Builtin.Range.small a b c = true) (hn : Builtin.Range.rangeSize a b c = n) (hl : n <= 2 ^ 24)
    (hR : ∀ h' tk acc c', (∀ b o, s.heap.get? b = some o -> h'.get? b = some o) -> h'.get? s.heap.objs.size = some { cls := .type "list", dict := none, data := .seq acc c', slots := #[] } -> ItemsOf (fun i v => ∃ t, v = .int (a + i * c) t) acc n ->
      R (.ok (.ret (.ref s.heap.objs.size))) { s with heap := h', toks := tk }) : codeAny (model prog w) A (.builtin "proto.collect" ⟨[.ref r], []⟩) R s := by
  refine codeAny_builtin PySem.F.entry_proto_collect ?_
  rw [Around.under_plainId PySem.F.plain_proto_collect _]
  show wpAny _ A.in1 (newList [] >>= fun l => again (.builtin "list.__iadd__" ⟨[l, .ref r], []⟩)) _ _ s
  refine wpAny_bind (wpAny_newObj_type ?_)
  refine wpAny_pure ⟨plainId_quiet PySem.F.plain_list_iadd _, codeAny_builtin PySem.F.entry_list_iadd ?_⟩
  rw [Around.under_plainId PySem.F.plain_list_iadd _]
  show wpAny _ A.in1 (Builtin.List.listExtendWith (.ref s.heap.objs.size) (.ref r) (.ref s.heap.objs.size)) _ _ _
  exact wpAny_extend_range (R := R) (s := { s with heap := s.heap.push { cls := .type "list", data := .seq ([] : List Value).toArray } }) hh (Heap.get?_push_of_some _ hr) hsm hn hl s.heap.objs.size (.ref s.heap.objs.size) 0 (Heap.get?_push_size _ rfl) fun h' tk acc c' hk hS hacc =>
    hR h' tk acc c' (fun b o e => hk b o (Nat.ne_of_lt (Heap.lt_size e)) (Heap.get?_push_of_some _ e)) hS hacc
theorem collect_range {Q : List Value -> Shared -> Prop} {r : Addr} {a b c : Int} {t u v : Tok} {n : Nat} (hh : A.handled = none) (hr : IsRange s.heap r a b c t u v) (hsm : Builtin.Range.small a b c = true) (hn : Builtin.Range.rangeSize a b c = n) (hl : n <= 2 ^ 24)
    (hQ : ∀ h' tk acc, (∀ b o, s.heap.get? b = some o -> h'.get? b = some o) -> s.heap.objs.size < h'.objs.size -> ItemsOf (fun i v => ∃ t, v = .int (a + i * c) t) acc n -> Q acc.toList { s with heap := h', toks := tk }) : wpAny (model prog w) A (collect (.ref r)) Q E s := by
  unfold collect
  refine wpAny_bind (wpAny_runValue (code_collect_range hh hr hsm hn hl fun h' tk acc c' hk hS hacc => ?_))
  show wpAny _ A (load s.heap.objs.size >>= _) _ _ _
  refine wpAny_bind (wpAny_load hS ?_)
  exact wpAny_pure (hQ h' tk acc hk (Heap.lt_size hS) hacc)
end
theorem new_tuple_range (r : Addr) (a b c : Int) (t u v : Tok) (n : Nat) (hsm : Builtin.Range.small a b c = true) (hn : Builtin.Range.rangeSize a b c = n) (hl : n <= 2 ^ 24) :
    Meets (Builtin.«tuple.__new__» ⟨[.type "tuple", .ref r], []⟩)
      (fun A R s => (A.handled = none /\ IsRange s.heap r a b c t u v) /\ ∀ (h' : Heap) (tk : Nat) (acc : Array Value), (∀ b o, s.heap.get? b = some o -> h'.get? b = some o) -> s.heap.objs.size < h'.objs.size -> ItemsOf (fun i v => ∃ t, v = .int (a + i * c) t) acc n ->
        R (.ok (.ret (.ref h'.objs.size))) { s with heap := h'.push { cls := .type "tuple", data := .seq acc }, toks := tk }) :=
  .of_wp fun prog w A R s h => by
    obtain ⟨⟨hh, hr⟩, h⟩ := h
    have hsub := sub_tuple_self
    have hinit := init_tuple_lookup
    have hmh := madeHere_tuple
    have hT : s.TypeIs (.ref r) "range" := ⟨_, hr, rfl⟩
    have hh1 : A.in1.handled = none := hh
    wp_walk using wpAny_typeOf hT, collect_range hh1 hr hsm hn hl
    intro h' tk acc hk hz hacc
    show wpAny _ _ (Builtin.Tuple.tupleExact acc.toList.toArray >>= fun v => ret v) _ _ _
    unfold Builtin.Tuple.tupleExact
    refine wpAny_bind (wpAny_newObj_type ?_ (show acc.toList.toArray.size <= sizeLine by simp only [Array.toArray_toList]; rw [hacc.1, sizeLine_eq]; omega))
    refine wpAny_pure ⟨_, rfl, ?_⟩
    have e : acc.toList.toArray = acc := by simp
    rw [e]
    exact h h' tk acc hk hz hacc
def upN (n : Nat) : List V := (List.range n).map fun (i : Nat) => V.int i
theorem items_up {acc : Array Value} {n : Nat} (h : ItemsOf (fun i v => ∃ t, v = .int (0 + (i : Int) * 1) t) acc n) : Vals (upN n) acc.toList := by
  obtain ⟨hz, hi⟩ := h
  have key : ∀ (l : List Value) (k : Nat), (∀ (j : Nat) (v : Value), l[j]? = some v -> ∃ t, v = Value.int ((k + j : Nat) : Int) t) -> Vals ((List.range' k l.length).map fun (i : Nat) => V.int i) l := by
    intro l
    induction l with
    | nil => intro k _; exact .nil
    | cons a r ih =>
      intro k hk
      obtain ⟨t, e⟩ := hk 0 a rfl
      refine .cons ⟨t, by simpa using e⟩ (ih (k + 1) fun j v e => ?_)
      obtain ⟨t', e'⟩ := hk (j + 1) v (by simpa using e)
      exact ⟨t', by rw [e']; congr 2; omega⟩
  have := key acc.toList 0 fun j v e => by
    obtain ⟨t, e'⟩ := hi j v (by simpa using e)
    exact ⟨t, by rw [e']; congr 1; simp⟩
  have el : acc.toList.length = n := by simpa using hz
  rw [el] at this
  unfold upN
  rw [List.range_eq_range']
  exact this
section
variable {X : Cx}
theorem call_range1 : CallR X (.type "range") (fun xs H Q => ∃ j : Int, xs = [.int j] /\ ∀ p, H p = none -> Q (.ref p) (upd H p (.rng 0 j))) := by
  intro pins s σ H xs us Q I r h
  obtain ⟨j, rfl, q⟩ := h
  obtain ⟨u, rfl, ru⟩ := Vals.one r
  obtain ⟨t, rfl⟩ := ru
  refine call_range_1 ⟨.ref s.heap.objs.size, upd H s.heap.objs.size (.rng 0 j), I.laid (fun b o e => Heap.get?_push_of_some _ e) (Nat.le_refl _) ?_, rfl, q _ (I.hok.fresh (Nat.le_refl _))⟩
  exact ⟨_, _, _, Heap.get?_push_size _ rfl⟩
theorem size1 (n : Nat) : Builtin.Range.rangeSize 0 (n : Int) 1 = (n : Int) := by rw [rangeSize_one]; split <;> omega
theorem call_list_rng (hc : X.calm = true) : CallR X (.type "list") (fun xs H Q => ∃ (p : Addr) (n : Nat), xs = [.ref p] /\ H p = some (.rng 0 n) /\ n <= 1000 /\ ∀ l, H l = none -> Q (.ref l) (upd H l (.lst (upN n)))) := by
  intro pins s σ H xs us Q I r h
  obtain ⟨p, n, rfl, hp, hn, q⟩ := h
  obtain ⟨u, rfl, ru⟩ := Vals.one r
  cases (show u = Value.ref p from ru)
  obtain ⟨t1, t2, t3, e⟩ := I.hok p _ hp
  refine call_list_range (t := t1) (u := t2) (v := t3) (I.ok.hd hc) e (small_one (by decide) (by decide) (by omega) (by omega)) (size1 n) (by omega) fun h' tk acc c' hk hS hacc => ?_
  refine ⟨.ref s.heap.objs.size, upd H s.heap.objs.size (.lst (upN n)), I.laid hk (Nat.le_refl _) ?_, rfl, q _ (I.hok.fresh (Nat.le_refl _))⟩
  exact ⟨by unfold upN; rw [List.length_map, List.length_range]; exact Nat.le_trans hn (by decide), acc.toList, c', items_up hacc, by rw [hS]⟩
theorem call_tuple_rng (hc : X.calm = true) : CallR X (.type "tuple") (fun xs H Q => ∃ (p : Addr) (n : Nat), xs = [.ref p] /\ H p = some (.rng 0 n) /\ n <= 1000 /\ ∀ l, H l = none -> Q (.ref l) (upd H l (.tup (upN n)))) := by
  intro pins s σ H xs us Q I r h
  obtain ⟨p, n, rfl, hp, hn, q⟩ := h
  obtain ⟨u, rfl, ru⟩ := Vals.one r
  cases (show u = Value.ref p from ru)
  obtain ⟨t1, t2, t3, e⟩ := I.hok p _ hp
  refine callType_new F.called_tuple (by decide) (F.typeCall_tuple_1 _) (F.newCall_tuple_1 _) (fun obj => F.args_object_init_2 obj _) F.entry_tuple_new
    (new_tuple_range p 0 n 1 t1 t2 t3 n (small_one (by decide) (by decide) (by omega) (by omega)) (size1 n) (by omega)) ⟨⟨I.ok.hd hc, e⟩, fun h' tk acc hk hz hacc => ⟨⟨_, Heap.get?_push_size _ rfl, rfl⟩, ?_⟩⟩
  have ge : s.heap.objs.size <= h'.objs.size := Nat.le_of_lt hz
  refine ⟨.ref h'.objs.size, upd H h'.objs.size (.tup (upN n)), I.laid (fun b o e => Heap.get?_push_of_some _ (hk b o e)) ge ?_, rfl, q _ (I.hok.fresh ge)⟩
  refine ⟨by unfold upN; rw [List.length_map, List.length_range]; exact Nat.le_trans hn (by decide), acc.toList, items_up hacc, _, Heap.get?_push_size _ rfl, rfl, 0, by simp⟩
def dcr : List Int -> Nat
  | [] => 0
  | x :: xs => dcr xs + if x ∈ xs then 0 else 1
def dcount (l : List Int) : Nat := dcr l.reverse
theorem firstMet_dc (ns : List Int) : ∀ i, i <= ns.length -> (firstMet (fun i => ns.getD i 0) i).length = dcount (ns.take i)
  | 0, _ => rfl
  | i + 1, h => by
    have hi : i < ns.length := by omega
    have ih := firstMet_dc ns i (by omega)
    have e1 : ns.take (i + 1) = ns.take i ++ [ns.getD i 0] := by
      rw [List.take_add_one]
      congr 1
      simp [List.getD, hi]
    have e2 : ((List.range i).map fun i => ns.getD i 0) = ns.take i := by
      apply List.ext_getElem?
      intro j
      by_cases hj : j < i
      · rw [List.getElem?_take_of_lt hj, List.getElem?_map, List.getElem?_range hj]
        have : j < ns.length := by omega
        simp [List.getD, this]
      · rw [List.getElem?_take_eq_none (by omega)]
        rw [List.getElem?_eq_none (by simp; omega)]
    have ea := firstMet_any (fun i => ns.getD i 0) i (ns.getD i 0)
    rw [e2] at ea
    rw [firstMet_succ, step_length, ea, ih, e1]
    unfold dcount
    rw [List.reverse_append]
    show _ = dcr (ns.getD i 0 :: (ns.take i).reverse)
    show _ = dcr (ns.take i).reverse + if ns.getD i 0 ∈ (ns.take i).reverse then 0 else 1
    by_cases hm : ns.getD i 0 ∈ ns.take i
    · have h1 : (ns.take i).any (· == ns.getD i 0) = true := List.any_eq_true.mpr ⟨_, hm, by simp⟩
      rw [h1, if_pos (List.mem_reverse.mpr hm)]
      simp
    · have h1 : (ns.take i).any (· == ns.getD i 0) = false := by
        rw [List.any_eq_false]
        intro x hx e
        have : x = ns.getD i 0 := by simpa using e
        exact hm (this ▸ hx)
      rw [h1, if_neg (fun z => hm (List.mem_reverse.mp z))]
      simp
theorem intsAre_V {ns : List Int} : ∀ {us : List Value}, Vals (ns.map V.int) us -> IntsAre us ns := by
  induction ns with
  | nil => intro us r; rw [Vals.zero r]; exact .nil
  | cons y ys ih =>
    intro us r
    cases r with
    | cons h t =>
      obtain ⟨tk, rfl⟩ := h
      exact .cons y tk (ih t)
theorem call_set_ints (hc : X.calm = true) : CallR X (.type "set") (fun xs H Q => ∃ (p : Addr) (ns : List Int), xs = [.ref p] /\ SqL X.K H p (ns.map V.int) /\ ns.length <= 1000 /\ ∀ l S, H l = none -> Q (.ref l) (upd H l (.set S (dcount ns)))) := by
  intro pins s σ H xs us Q I r h
  obtain ⟨p, ns, rfl, hp, hn, q⟩ := h
  obtain ⟨u, rfl, ru⟩ := Vals.one r
  cases (show u = Value.ref p from ru)
  obtain ⟨its, r1, t1, _⟩ := I.list hp
  have hl : its.length = ns.length := by have := r1.length; rw [List.length_map] at this; omega
  refine PySem.call_set_list (I.ok.hd hc) t1.isList (by simpa using intsAre_V r1) (by show its.toArray.size + 1 < 4096; rw [List.size_toArray]; omega) fun h' tk hS hk => ?_
  have hs : its.toArray.size = ns.length := by rw [List.size_toArray, hl]
  rw [hs, firstMet_dc ns ns.length (Nat.le_refl _), List.take_length] at hS
  exact ⟨.ref s.heap.objs.size, upd H s.heap.objs.size (.set _ (dcount ns)), I.laid (fun b o e => hk b o (Heap.lt_size e) e) (Nat.le_refl _) hS, rfl, q _ _ (I.hok.fresh (Nat.le_refl _))⟩
theorem call_len_setH : CallR X (.builtin "len") (fun xs H Q => ∃ (p : Addr) (S : Int -> Bool) (n : Nat), xs = [.ref p] /\ H p = some (.set S n) /\ Q (.int n) H) := by
  intro pins s σ H xs us Q I r h
  obtain ⟨p, S, n, rfl, hp, q⟩ := h
  obtain ⟨u, rfl, ru⟩ := Vals.one r
  cases (show u = Value.ref p from ru)
  obtain ⟨o, es, ep, t, e1, e2, e3, _, _, e4, e5, e6⟩ := I.hok p _ hp
  subst e6
  refine call_len_set e1 e2 e3 e5 ?_ ⟨.int es.size, H, I.tok _, ⟨_, rfl⟩, q⟩
  have : es.size < 4096 := e4
  omega
def rIsX (K : PySem.W.Frag) : List V -> Hp -> VK -> Prop := fun xs H Q => ∃ (a C : Addr) (c : V) (u : Value) (b : Bool), xs = [.ref a, c] /\ RelV c u /\ H a = some (excO a C) /\ ExcK K C /\ PySem.W.kitOne K (.ref C) u = some b /\ Q (.bl b) H
def rIsXs (K : PySem.W.Frag) : List V -> Hp -> VK -> Prop := fun xs H Q => ∃ (a C p : Addr) (cs : List V) (b : Bool), xs = [.ref a, .ref p] /\ SqT K H p cs /\ H a = some (excO a C) /\ ExcK K C /\ (∀ us, Vals cs us -> PySem.W.kitAny K (.ref C) us = some b) /\ Q (.bl b) H
end
structure RoomH (k : Nat) (A : Around) : Prop where
  dp : A.depth + 3 * k + 5 < recursionLimit
  un : A.units + 16 * k + 200 < cLine
def cxH (P : Program) (w : World) (K : PySem.W.Frag) (mg : Str -> Option Value) (base : Heap) (N : List Str) (qual : Str) (scope : Scope) (f : Addr) (cd : Value) (A : Around) (outer : List Env) (s : Shared) (H : Hp) (E : XK) : Cx :=
  { (cxOf CX0 P w K mg base N qual scope f cd A outer s H E).nox with calm := false }
structure FnOkH (P : Program) (w : World) (K : PySem.W.Frag) (mg : Str -> Option Value) (base : Heap) (k : Nat) (f : Addr) (fd : FuncData) (ps : List Str) (sp : Sp) : Prop where
  len : ∀ vs H Q E, sp vs H Q E -> vs.length = ps.length
  run : ∀ (A : Around) (outer : List Env) (s : Shared) (H : Hp) (args : Args) (us : List Value) (vs : List V) (Q : VK) (E : XK), RoomH k A -> Env0 P w K mg base A outer s H -> BindsTo s fd args (ps.zip us) -> Vals vs us -> sp vs H Q E ->
    codeAny (model P w) A (.call (.ref f) args) (CR CX0 outer P w H s Q E) s
structure DefH (P : Program) (w : World) (K : PySem.W.Frag) (mg : Str -> Option Value) (base : Heap) (k : Nat) (x : Str) (ps : List Str) (sp : Sp) : Prop where
  ex : ∃ f fd, FnOkH P w K mg base k f fd ps sp /\ Binds K fd ps [] /\ mg x = some (.ref f) /\ PySem.W.keepIn K (.ref f) = true
section
variable {X : Cx}
def rSortedI (K : PySem.W.Frag) : List V -> Hp -> VK -> Prop := fun xs H Q => ∃ (p : Addr) (ns : List Int), xs = [.ref p] /\ SqL K H p (ns.map V.int) /\ ns.length < 64 /\ ∀ (l : Addr) (ms : List Int), ms.Perm ns -> ms.Pairwise (· <= ·) -> H l = none -> Q (.ref l) (upd H l (.lst (ms.map V.int)))
end
end L2
namespace L2
open PySem PySem.Spec PyProof.Rows PySem.W
abbrev TSX := Ends -> (St -> XK) -> St -> Hp -> Prop
def XP (X : Cx) (pins : List (Addr × Obj)) (DX : St -> XK) (e : Value) (s' : Shared) : Prop := ∃ σ H s, Inv X pins σ H s /\ CXr X.prog X.w X.stack H s (DX σ) e s'
def PX (X : Cx) (st : Stmt) (t : TSX) : Prop := ∀ (pins : List (Addr × Obj)) (s : Shared) (σ : St) (H : Hp) (D : Ends) (DX : St -> XK), Inv X pins σ H s -> t D DX σ H -> wpAny (model X.prog X.w) X.A (exec st X.env) (SP X pins D) (XP X pins DX) s
def PXs (X : Cx) (st : List Stmt) (t : TSX) : Prop := ∀ (pins : List (Addr × Obj)) (s : Shared) (σ : St) (H : Hp) (D : Ends) (DX : St -> XK), Inv X pins σ H s -> t D DX σ H -> wpAny (model X.prog X.w) X.A (execs st X.env) (SP X pins D) (XP X pins DX) s
section
variable {X : Cx}
def xSeq (t u : TSX) : TSX := fun D DX σ H => t { D with nx := u D DX } DX σ H
def xCall (sp : Sp) (ta : TA) : TSX := fun D DX σ H => ta σ H fun vs H1 => sp (vs ++ []) H1 (fun _ H2 => D.nx σ H2) (DX σ)
def xSet (i : Nat) (sp : Sp) (ta : TA) : TSX := fun D DX σ H => ta σ H fun vs H1 => sp (vs ++ []) H1 (fun v H2 => D.nx (σ.set i (some v)) H2) (DX σ)
def xIf (tc : TT) (t u : TSX) : TSX := fun D DX σ H => tc σ H fun b H1 => if b = true then t D DX σ H1 else u D DX σ H1
def tTryX (K : Frag) (tbody : TSX) (i : Nat) (W : Addr) (tb : TS) : TS := fun D σ H => tbody D (fun σ1 c _ H2 => ∃ C, c = .ref C /\ subIn K (.ref C) (.ref W) = some true /\
  ∀ ea, H2 ea = none -> tb { D with nx := fun σ' H' => D.nx (σ'.set i none) H', bk := fun _ _ => False, ct := fun _ _ => False } (σ1.set i (some (.ref ea))) (upd H2 ea (excO ea C))) σ H
end
end L2
namespace L2
open PySem PySem.Spec PyProof.Rows
section
variable {X : Cx}
def rNilT (K : PySem.W.Frag) : R2 := fun x y H Q => ∃ a b xs, x = .ref a /\ y = .ref b /\ SqT K H a xs /\ SqT K H b [] /\ Q (.bl (decide (xs = []))) H
def rCatA (K : PySem.W.Frag) : R2 := fun x y H Q => ∃ a b xs ys, x = .ref a /\ y = .ref b /\ H a = some (.tup xs) /\ H b = some (.tup ys) /\ xs.length + ys.length <= sizeLine /\ ∀ p H', Same H H' -> H' p = some (.tup (xs ++ ys)) -> Q (.ref p) H'
end
section
variable {κ : Type} [DecidableEq κ]
def valV (kvs : List (κ × V)) (k : κ) : Option V := (kvs.find? fun kv => decide (kv.1 = k)).map (·.2)
def putK (kvs : List (κ × V)) (k : κ) (v : V) : List (κ × V) :=
  if (kvs.any fun kv => decide (kv.1 = k)) = true then kvs.map (fun kv => if kv.1 = k then (kv.1, v) else kv) else kvs ++ [(k, v)]
def dropK (kvs : List (κ × V)) (k : κ) : List (κ × V) := kvs.filter fun kv => decide (kv.1 ≠ k)
end
abbrev KT (H : Hp) : List (List Key × V) -> List (List Key × Addr × Value) -> Prop := Paired fun p q => p.1 = q.1 /\ H q.2.1 = some (.tup (p.1.map kV)) /\ RelV p.2 q.2.2
section
variable {P : Program} {w : World} {H : Hp} {h : Heap} {a : Addr}
end
def DGet (H : Hp) (a : Addr) (y : V) (r : Option V) : Prop :=
  (∃ kvs k, Rd H a (.dK kvs) /\ y = kV k /\ r = valV kvs k) \/ ∃ kvs k b, Rd H a (.dT kvs) /\ y = .ref b /\ H b = some (.tup (k.map kV)) /\ r = valV kvs k
def DPut (H : Hp) (a : Addr) (y v : V) (H' : Hp) : Prop :=
  (∃ kvs k, H a = some (.dK kvs) /\ y = kV k /\ kvs.length < sizeLine /\ H' = upd H a (.dK (putK kvs k v))) \/
  ∃ kvs k b, H a = some (.dT kvs) /\ y = .ref b /\ H b = some (.tup (k.map kV)) /\ kvs.length < sizeLine /\ H' = upd H a (.dT (putK kvs k v))
section
variable {X : Cx} {pins : List (Addr × Obj)} {σ : St} {H : Hp} {s : Shared} {a : Addr} {y v : V} {u r : Value} {o : Option V} {A : Around} {E : Value -> Shared -> Prop}
end
section
variable {X : Cx} {pins : List (Addr × Obj)} {σ : St} {H : Hp} {s : Shared} {a : Addr} {kvs : List (Key × V)} {k : Key} {u : Value} {A : Around} {E : Value -> Shared -> Prop}
end
def NoSl (i : Expr) : Prop := ∀ ov iv, subscripted i false ov iv = operate [ov, iv] (getItem ov iv)
def tDGet (td ty : TE) : TE := fun σ H Q => td σ H fun x H1 => ty σ H1 fun y H2 => ∃ a v, x = .ref a /\ DGet H2 a y (some v) /\ Q v H2
def tDIn (ty td : TE) : TE := fun σ H Q => ty σ H fun y H1 => td σ H1 fun x H2 => ∃ a o, x = .ref a /\ DGet H2 a y o /\ Q (.bl o.isSome) H2
def tDNotIn (ty td : TE) : TE := fun σ H Q => ty σ H fun y H1 => td σ H1 fun x H2 => ∃ a o, x = .ref a /\ DGet H2 a y o /\ Q (.bl (!o.isSome)) H2
def sDPut (td ty tv : TE) : TS := fun D σ H => tv σ H fun v H1 => td σ H1 fun x H2 => ty σ H2 fun y H3 => ∃ a H4, x = .ref a /\ DPut H3 a y v H4 /\ D.nx σ H4
def sDAug (td ty tv : TE) (rd : V -> V -> Hp -> VK -> Prop) : TS := fun D σ H => td σ H fun x H1 => ty σ H1 fun y H2 => ∃ a v, x = .ref a /\ DGet H2 a y (some v) /\
  tv σ H2 fun y2 H3 => rd v y2 H3 fun z H4 => ∃ H5, DPut H4 a y z H5 /\ D.nx σ H5
def sDDel (td ty : TE) : TS := fun D σ H => td σ H fun x H1 => ty σ H1 fun y H2 => ∃ a kvs k, x = .ref a /\ H2 a = some (.dK kvs) /\ y = kV k /\ (valV kvs k).isSome = true /\ D.nx σ (upd H2 a (.dK (dropK kvs k)))
section
variable {X : Cx} {o i e value : Expr} {pos pos' tpos : Pos} {td ty tv : TE}
end
def tDNewK : TE := fun _ H Q => ∀ p, H p = none -> Q (.ref p) (upd H p (.dK []))
def tDNewT : TE := fun _ H Q => ∀ p, H p = none -> Q (.ref p) (upd H p (.dT []))
section
variable {X : Cx} {pos : Pos}
end
def tPairs : List (TE × TE) -> St -> Hp -> (List (V × V) -> Hp -> Prop) -> Prop
  | [], _, H, Q => Q [] H
  | (tk, tv) :: r, σ, H, Q => tk σ H fun x H1 => tv σ H1 fun y H2 => tPairs r σ H2 fun ps H3 => Q ((x, y) :: ps) H3
abbrev VV : List (V × V) -> List (Value × Value) -> Prop := Paired fun p q => RelV p.1 q.1 /\ RelV p.2 q.2
def PPs (X : Cx) (pos : Pos) (keys : List (Option Expr)) (values : List Expr) (trs : List (TE × TE)) : Prop :=
  ∀ (pins : List (Addr × Obj)) (s : Shared) (σ : St) (H : Hp) (Q : List (V × V) -> Hp -> Prop), Inv X pins σ H s -> tPairs trs σ H Q ->
    wpAny (model X.prog X.w) X.A (evalPairs (pairTrees keys values X.env pos)) (fun vs s' => ∃ ps H', Inv X pins σ H' s' /\ VV ps vs /\ Q ps H') X.xe s
def mergeK (kvs more : List (Key × V)) : List (Key × V) := more.foldl (fun acc kv => putK acc kv.1 kv.2) kvs
def tDisp (trs : List (TE × TE)) : TE := fun σ H Q => ∀ p, H p = none -> tPairs trs σ (upd H p (.dK [])) fun ps H2 => H2 p = some (.dK []) /\ ∃ kvs : List (Key × V), ps = kvs.map (fun kv => (kV kv.1, kv.2)) /\ kvs.length <= 15 /\ Q (.ref p) (upd H2 p (.dK (mergeK [] kvs)))
structure M1 (X : Cx) (o : Expr) (m : Str) (apos : Pos) (e : Expr) (cpos : Pos) : Prop where
  base : attributeBase o m X.env (eval o X.env) = eval o X.env
  few : ((backTo cpos (starEach [e] X.env)).all (fun x => !x.1) && (backToKw cpos (keywordEach [] X.env)).all (fun x => x.1.isSome)
    && decide (([e] : List Expr).length + ([] : List Keyword).length + (if ([] : List Keyword).isEmpty then 0 else 1) < 30)) = true
  line : (apos.endLine == cpos.line) = true
  trees : backTo cpos (starEach [e] X.env) = [(false, eval e X.env)]
structure M2 (X : Cx) (o : Expr) (m : Str) (apos : Pos) (e f : Expr) (cpos : Pos) : Prop where
  base : attributeBase o m X.env (eval o X.env) = eval o X.env
  few : ((backTo cpos (starEach [e, f] X.env)).all (fun x => !x.1) && (backToKw cpos (keywordEach [] X.env)).all (fun x => x.1.isSome)
    && decide (([e, f] : List Expr).length + ([] : List Keyword).length + (if ([] : List Keyword).isEmpty then 0 else 1) < 30)) = true
  line : (apos.endLine == cpos.line) = true
  trees : backTo cpos (starEach [e, f] X.env) = [(false, eval e X.env), (false, eval f X.env)]
def IsD (H : Hp) (a : Addr) : Prop := (∃ kvs, Rd H a (.dK kvs)) \/ ∃ kvs, Rd H a (.dT kvs)
section
variable {X : Cx} {pins : List (Addr × Obj)} {σ : St} {H : Hp} {s : Shared} {a : Addr} {y d : V} {u r : Value} {o : Option V} {A : Around} {E : Value -> Shared -> Prop}
end
def tDGet1 (td ty : TE) : TE := fun σ H Q => td σ H fun x H1 => ∃ a, x = .ref a /\ IsD H1 a /\ ty σ H1 fun y H2 => ∃ o, DGet H2 a y o /\ Q (o.getD .non) H2
def tDGet2 (td ty tx : TE) : TE := fun σ H Q => td σ H fun x H1 => ∃ a, x = .ref a /\ IsD H1 a /\ ty σ H1 fun y H2 => tx σ H2 fun z H3 => ∃ o, DGet H3 a y o /\ Q (o.getD z) H3
def tDPop1 (td ty : TE) : TE := fun σ H Q => td σ H fun x H1 => ∃ a, x = .ref a /\ IsD H1 a /\ ty σ H1 fun y H2 => ∃ kvs k v, H2 a = some (.dK kvs) /\ y = kV k /\ valV kvs k = some v /\ Q v (upd H2 a (.dK (dropK kvs k)))
def tDPop2 (td ty tx : TE) : TE := fun σ H Q => td σ H fun x H1 => ∃ a, x = .ref a /\ IsD H1 a /\ ty σ H1 fun y H2 => tx σ H2 fun z H3 => ∃ kvs k, H3 a = some (.dK kvs) /\ y = kV k /\
  (∀ v, valV kvs k = some v -> Q v (upd H3 a (.dK (dropK kvs k)))) /\ (valV kvs k = none -> Q z H3)
section
variable {X : Cx} {o e f : Expr} {apos cpos : Pos} {td ty tx : TE}
end
section
variable {X : Cx} {pins : List (Addr × Obj)} {σ : St} {H : Hp} {s : Shared} {a : Addr} {kvs : List (Key × V)} {A : Around} {E : Value -> Shared -> Prop}
end
section
variable {X : Cx} {pins : List (Addr × Obj)} {σ : St} {H : Hp} {s : Shared} {a : Addr} {y : V} {u : Value} {A : Around} {E : Value -> Shared -> Prop}
end
section
variable {prog : Program} {w : World} {A : Around} {E : Value -> Shared -> Prop} {s : Shared} {it d v : Addr} {i ep : Nat} {es : Array DictEntry} {o : Obj}
end
abbrev TTab := List (List Key × V)
section
variable {X : Cx} {pins : List (Addr × Obj)} {σ : St} {H : Hp} {s : Shared} {d : Addr} {kvs : TTab}
end
def ItDK (d : Addr) (o : Obj) (kvs : TTab) : It :=
  ⟨fun i H => H d = some (.frz o (.dT kvs)) /\ i < kvs.length, fun i H x H' => H' = H /\ ∃ b k v, x = .ref b /\ kvs[i]? = some (k, v) /\ H b = some (.tup (k.map kV)), fun i H => H d = some (.frz o (.dT kvs)) /\ kvs.length <= i⟩
def iDK (td : TE) : TI := fun σ H R => td σ H fun x H1 => ∃ d kvs, x = .ref d /\ H1 d = some (.dT kvs) /\ ∀ o, R (ItDK d o kvs) (upd H1 d (.frz o (.dT kvs)))
def viewO (v d : Addr) : HO := .ext fun h => h.IsItemsView v d
section
variable {X : Cx}
def rItems : V -> List V -> Hp -> VK -> Prop := fun x xs H Q => ∃ d kvs, x = .ref d /\ xs = [] /\ H d = some (.dT kvs) /\ ∀ v, H v = none -> Q (.ref v) (upd H v (viewO v d))
end
def ItDI (d : Addr) (o : Obj) (kvs : TTab) : It :=
  ⟨fun i H => H d = some (.frz o (.dT kvs)) /\ i < kvs.length, fun i H x H' => ∃ T b k v, x = .ref T /\ H T = none /\ kvs[i]? = some (k, v) /\ H b = some (.tup (k.map kV)) /\ H' = upd H T (.tup [.ref b, v]), fun i H => H d = some (.frz o (.dT kvs)) /\ kvs.length <= i⟩
def iDI (tv : TE) : TI := fun σ H R => tv σ H fun x H1 => ∃ v d kvs, x = .ref v /\ H1 v = some (viewO v d) /\ H1 d = some (.dT kvs) /\ ∀ o, R (ItDI d o kvs) (upd H1 d (.frz o (.dT kvs)))
end L2
namespace L2
open PySem PySem.W PyProof.Rows
inductive Ran (lt : Nat -> Nat -> Bool) (N : Nat) {α : Type} : KasT α -> α -> Prop
  | ret (a : α) : Ran lt N (.ret a) a
  | ask {i j : Nat} {k : Bool -> KasT α} {a : α} (hi : i < N) (hj : j < N) (h : Ran lt N (k (lt i j)) a) : Ran lt N (.ask i j k) a
structure Ord (lt : Nat -> Nat -> Bool) : Prop where
  as : ∀ i j, lt i j = true -> lt j i = false
  tr : ∀ i j k, lt j i = false -> lt k j = false -> lt k i = false
structure PB (N : Nat) (p : Array Nat) : Prop where
  perm : p.Perm (List.range N).toArray
section
variable {lt : Nat -> Nat -> Bool} {N : Nat}
def Up (lt : Nat -> Nat -> Bool) (p : Array Nat) (m : Nat) : Prop := ∀ i j, i <= j -> j < m -> lt (p.getD j 0) (p.getD i 0) = false
def Down (lt : Nat -> Nat -> Bool) (p : Array Nat) (m : Nat) : Prop := ∀ i j, i <= j -> j < m -> lt (p.getD i 0) (p.getD j 0) = false
def Flat (lt : Nat -> Nat -> Bool) (p : Array Nat) (a b : Nat) : Prop := ∀ i j, a <= i -> i < b -> a <= j -> j < b -> lt (p.getD i 0) (p.getD j 0) = false
end
end L2
namespace L2
open PySem PySem.W PyProof.Rows
section
variable {prog : Program} {w : World} {A : Around} {E : Value -> Shared -> Prop} {s : Shared}
def Asks (prog : Program) (w : World) (s : Shared) (lt : Nat -> Nat -> Bool) (vs : List Value) : Prop :=
  ∀ (A : Around) (h' : Heap), (∀ b u, s.heap.get? b = some u -> h'.get? b = some u) -> 2 <= vs.length -> ∃ κ : SortKind, (∀ (E : Value -> Shared -> Prop) (Q : SortKind -> Shared -> Prop), Q κ { s with heap := h' } -> wpAny (model prog w) A (keyKind' vs.toArray) Q E { s with heap := h' }) /\
    ∀ (i j : Nat) (C : Bool -> Shared -> Prop), i < vs.length -> j < vs.length -> C (lt i j) { s with heap := h' } -> wpAny (model prog w) A (keyLt' κ (vs.getD i Value.none) (vs.getD j Value.none)) C (fun _ _ => False) { s with heap := h' }
def outOf (vs : List Value) (p : Array Nat) : List Value := p.toList.map fun i => vs.getD i Value.none
end
end L2
namespace L2
open PySem PySem.W PyProof.Rows
def lexZ (fin : Bool) : List Int -> List Int -> Bool
  | x :: xs, y :: ys => if x = y then lexZ fin xs ys else decide (x < y)
  | _, _ => fin
section
variable {prog : Program} {w : World} {A : Around} {E : Value -> Shared -> Prop} {s : Shared}
def TupI (h : Heap) (v : Value) (ks : List Int) : Prop := ∃ a o xs n, v = .ref a /\ h.get? a = some o /\ o.cls = .type "tuple" /\ o.data = .seq xs n /\ IntsAre xs.toList ks
end
def IntsAt (H : Hp) (v : V) (ks : List Int) : Prop := ∃ a, v = .ref a /\ H a = some (.tup (ks.map V.int))
def LexLe (a b : List Int) : Prop := HT.lexLt b a = false
section
variable {X : Cx}
def rSortedT (K : PySem.W.Frag) : List V -> Hp -> VK -> Prop := fun xs H Q => ∃ (p : Addr) (rs : List V) (kss : List (List Int)), xs = [.ref p] /\ SqL K H p rs /\ rs.length < 64 /\ Paired (IntsAt H) rs kss /\ (∀ ks ∈ kss, ks ≠ []) /\
  ∀ (l : Addr) (rs' : List V) (kss' : List (List Int)), Paired (IntsAt H) rs' kss' -> kss'.Perm kss -> kss'.Pairwise LexLe -> H l = none -> Q (.ref l) (upd H l (.lst rs'))
end
end L2
namespace L2
open PySem PySem.Spec PyProof.Rows
theorem for_seq {k : Kd} {K : PySem.W.Frag} {a : Addr} {xs : List V} {g : TG} {tb : TS} {D : Ends} {σ : St} {H : Hp} (Pv : Nat -> St -> Hp -> Prop) (h0 : Pv 0 σ H) (hl : ∀ i σ H, i <= xs.length -> Pv i σ H -> SqK k K H a xs)
    (hs : ∀ i x σ H, xs[i]? = some x -> Pv i σ H -> g x σ H fun σ2 H2 => tb { D with nx := Pv (i + 1), ct := Pv (i + 1), bk := D.nx } σ2 H2) (hd : ∀ σ H, Pv xs.length σ H -> D.nx σ H) :
    ∃ W : Nat -> Nat -> St -> Hp -> Prop, (∃ m, W 0 m σ H) /\ ∀ i m σ H, W i m σ H ->
      ((ItK k K a).stop i H /\ D.nx σ H) \/ ((ItK k K a).go i H /\ ∃ N : St -> Hp -> Prop, (∀ σ' H', N σ' H' -> ∃ m', m' < m /\ W (i + 1) m' σ' H') /\ ∀ x H', (ItK k K a).yld i H x H' -> g x σ H' fun σ2 H2 => tb { D with nx := N, ct := N, bk := D.nx } σ2 H2) := by
  cases k with
  | l => exact for_list Pv h0 hl hs hd
  | t => exact for_tup Pv h0 hl hs hd
section
variable {X : Cx}
end
section
open PySem.SeqAt
open PySem.AutoSeq1 (wpAny_loadPart')
open PySem.MeetsSeq PySem.MeetsSeq2 PySem.MeetsSeq3
def GeAt (A : Around) (s : Shared) (v u : Value) (r : Bool) : Prop := ∀ (prog : Program) (w : World) (E : Value -> Shared -> Prop) (Q : Value -> Shared -> Prop), Q (.bool r) s -> wpAny (model prog w) A (richCompare .GtE v u) Q E s
inductive CmpG (A : Around) (s : Shared) (z : Bool) : List Value -> List Value -> Bool -> Prop
  | nilL (ws : List Value) : CmpG A s z [] ws z
  | nilR (v : Value) (vs : List Value) : CmpG A s z (v :: vs) [] z
  | eq {v u : Value} {vs ws : List Value} {b : Bool} (e : EqAt A s v u true) (t : CmpG A s z vs ws b) : CmpG A s z (v :: vs) (u :: ws) b
  | ne {v u : Value} {vs ws : List Value} {r : Bool} (e : EqAt A s v u false) (t : GeAt A s v u r) : CmpG A s z (v :: vs) (u :: ws) r
end
def lexGe (z : Bool) : List Int -> List Int -> Bool
  | x :: xs, y :: ys => if x = y then lexGe z xs ys else decide (y <= x)
  | _, _ => z
section
variable {X : Cx}
def rGeT (K : PySem.W.Frag) : R2 := fun x y H Q => ∃ a b ns ms, x = .ref a /\ y = .ref b /\ SqT K H a (ns.map V.int) /\ SqT K H b (ms.map V.int) /\ Q (.bl (lexGe (decide (ms.length <= ns.length)) ns ms)) H
end
section
variable {prog : Program} {w : World} {A : Around} {E : Value -> Shared -> Prop} {s : Shared} {it l : Addr} {its : Array Value}
end
section
variable {X : Cx}
def tListRev (K : PySem.W.Frag) (tl : TE) : TE := fun σ H Q => tl σ H fun x H1 => ∃ a ys, x = .ref a /\ SqL K H1 a ys /\ ys.length <= 1000 /\ ∀ p, H1 p = none -> Q (.ref p) (upd H1 p (.lst ys.reverse))
end
def cE (e : Int × Value) : Int × Value := (e.1, .int e.1 0)
def addT (st : Array (Int × Value) × SetTable) (n : Int) : Array (Int × Value) × SetTable :=
  let L := layNew st.2 st.1 n (.int n 0)
  if (!L.2.2.1 && L.2.1.tooFull) = true then ((relayAll L.2.1 L.1 (SetTable.grown L.1.size)).1, (relayAll L.2.1 L.1 (SetTable.grown L.1.size)).2.1) else (L.1, L.2.1)
def tabOf (led : Bool) (ns : List Int) : Array (Int × Value) × SetTable := ns.foldl addT (#[], SetTable.fresh 0 0 led)
def TabS (h : Heap) (a : Addr) (led : Bool) (ns : List Int) : Prop :=
  ∃ o es ep t, h.get? a = some o /\ o.ExactSet /\ o.data = .set es ep t /\ es.map cE = (tabOf led ns).1 /\ t = (tabOf led ns).2 /\ (∀ e ∈ es.toList, (∃ tk, e.2 = .int e.1 tk) /\ 0 <= e.1 /\ e.1 <= 8) /\ (es.toList.map (·.1)).Perm ns /\ t.fits es.size = true /\ es.size < 100
section
variable {prog : Program} {w : World} {A : Around} {E : Value -> Shared -> Prop} {s : Shared} {a : Addr} {led : Bool} {ns : List Int}
end
section
variable {prog : Program} {w : World} {A : Around} {R : Result -> Shared -> Prop} {I : Addr} {fp wr : List Addr} {G : Array GenState -> Array GenState -> Prop} {n : Nat} {P : Nat -> Value -> Prop} {St : Nat -> Shared -> Prop}
end
section
variable {prog : Program} {w : World} {A : Around} {E : Value -> Shared -> Prop} {s : Shared}
set_option maxHeartbeats 8000000 in
end
abbrev setIt (slot i : Int) (a : Addr) (n ep : Nat) : Obj := { cls := .type "set_iterator", data := .fields #[rawInt slot, rawInt i, .ref a, rawInt n, rawInt ep] }
def slotAt (t : SetTable) (i : Nat) : Nat := if i = 0 then 0 else t.place.getD (i - 1) 0 + 1
def goesOn (t : SetTable) (n : Nat) : Bool := t.plain && t.led && (t.place.size == n) && (List.range (n + 1)).all fun i => SetTable.below t.place (slotAt t i) == i
section
variable {prog : Program} {w : World} {A : Around} {E : Value -> Shared -> Prop} {s : Shared} {it a : Addr} {o : Obj} {es : Array (Int × Value)} {ep i : Nat} {t : SetTable} {slot : Nat}
end
def ordOf (w : World) (a : Addr) (ep : Nat) (es : Array (Int × Value)) : Array (Int × Value) := if w.params.followText "set-order" = true then pickOrder (w.params.setOrder a ep) es else es
section
variable {prog : Program} {w : World} {A : Around} {E : Value -> Shared -> Prop} {s : Shared} {it a : Addr} {o : Obj} {es : Array (Int × Value)} {ep i : Nat} {t : SetTable} {slot : Nat}
end
section
variable {prog : Program} {w : World} {A : Around} {E : Value -> Shared -> Prop} {s : Shared} {a : Addr} {o : Obj} {es : Array (Int × Value)} {ep : Nat} {t : SetTable}
end
section
variable {prog : Program} {w : World} {A : Around} {E : Value -> Shared -> Prop} {s : Shared} {a : Addr}
end
section
variable {X : Cx}
def setO (w : World) (a : Addr) (ns : List Int) : HO := .ext fun h => TabS h a (!w.params.followText "set-order") ns
end
def risers (m : Nat) : List Int := 0 :: (List.range 8).filterMap fun i => if m.testBit i then some ((i : Int) + 1) else none
section
variable {prog : Program} {w : World} {A : Around} {E : Value -> Shared -> Prop} {s : Shared}
end
section
variable {X : Cx}
end
def ItRv (K : PySem.W.Frag) (a : Addr) (n : Nat) : It :=
  ⟨fun i H => ∃ xs, SqL K H a xs /\ xs.length = n /\ i < n, fun i H x H' => H' = H /\ ∀ xs, SqL K H a xs -> xs[n - 1 - i]? = some x, fun i H => ∃ xs, SqL K H a xs /\ xs.length = n /\ i = n⟩
def iRev (K : PySem.W.Frag) (tl : TE) : TI := fun σ H R => tl σ H fun x H1 => ∃ a xs, x = .ref a /\ SqL K H1 a xs /\ R (ItRv K a xs.length) H1
end L2
namespace L2
open PySem PySem.W PyProof.Rows
def gallop' : Bool -> Keyed -> Array Keyed -> Nat -> Nat -> Nat -> StateT SortSt Sem (Option Nat) := sortPriv% PySem.Builtin.gallop
section
variable {prog : Program} {w : World} {A : Around} {E : Value -> Shared -> Prop} {s : Shared} {κ : SortKind} {it : Array Keyed} {lt : Nat -> Nat -> Bool} {N : Nat}
def Cmp (prog : Program) (w : World) (A : Around) (κ : SortKind) (it : Array Keyed) (lt : Nat -> Nat -> Bool) (N : Nat) (s : Shared) : Prop := ∀ i j C, i < N -> j < N -> C (lt i j) s -> kas_cmp prog w A κ it i j C s
def Bey (lt : Nat -> Nat -> Bool) (left : Bool) (k x : Nat) : Bool := if left = true then lt x k else !lt k x
end
end L2
namespace L2
open PySem PySem.W PyProof.Rows
def mergeLo' : Array Keyed -> Array Keyed -> StateT SortSt Sem (Array Keyed) := sortPriv% PySem.Builtin.mergeLo
def mergeHi' : Array Keyed -> Array Keyed -> StateT SortSt Sem (Array Keyed) := sortPriv% PySem.Builtin.mergeHi
def Gs (st st' : SortSt) : Prop := kindOf st' = kindOf st /\ arrOf st' = arrOf st /\ pendingOf st' = pendingOf st /\ failedOf st' = failedOf st
section
variable {lt : Nat -> Nat -> Bool}
abbrev Le (lt : Nat -> Nat -> Bool) (x y : Nat) : Prop := lt y x = false
structure MI (lt : Nat -> Nat -> Bool) (La Lb out : List Nat) (ia ib : Nat) : Prop where
  p : (out ++ (La.drop ia ++ Lb.drop ib)).Perm (La ++ Lb)
  s : out.Pairwise (Le lt)
  c : ∀ x ∈ out, ∀ y ∈ La.drop ia ++ Lb.drop ib, Le lt x y
def Told (lt : Nat -> Nat -> Bool) (it : Array Keyed) (La Lb : List Nat) (res : Array Keyed) : Prop := ∃ L : List Nat, res.toList = L.map (kas_item it) /\ L.Perm (La ++ Lb) /\ L.Pairwise (Le lt)
end
section
variable {prog : Program} {w : World} {A : Around} {E : Value -> Shared -> Prop} {s : Shared} {κ : SortKind} {it : Array Keyed} {lt : Nat -> Nat -> Bool} {N : Nat}
def At (lt : Nat -> Nat -> Bool) (it : Array Keyed) (La Lb : List Nat) (out : Array Keyed) (ia ib : Nat) : Prop := ∃ L : List Nat, out.toList = L.map (kas_item it) /\ MI lt La Lb L ia ib
end
end L2
namespace L2
open PySem PySem.W PyProof.Rows
section
variable {prog : Program} {w : World} {A : Around} {E : Value -> Shared -> Prop} {s : Shared} {κ : SortKind} {it : Array Keyed} {lt : Nat -> Nat -> Bool} {N : Nat}
end
end L2
namespace L2
open PySem PySem.W PyProof.Rows
section
variable {prog : Program} {w : World} {A : Around} {E : Value -> Shared -> Prop} {s : Shared} {κ : SortKind} {it : Array Keyed} {lt : Nat -> Nat -> Bool} {N : Nat}
structure MH (lt : Nat -> Nat -> Bool) (La Lb R : List Nat) (na nb : Nat) : Prop where
  p : ((La.take na ++ Lb.take nb) ++ R).Perm (La ++ Lb)
  s : R.Pairwise (Le lt)
  c : ∀ x ∈ La.take na ++ Lb.take nb, ∀ y ∈ R, Le lt x y
def Ah (lt : Nat -> Nat -> Bool) (it : Array Keyed) (La Lb : List Nat) (out : Array Keyed) (na nb : Nat) : Prop := ∃ R : List Nat, out.toList = R.reverse.map (kas_item it) /\ MH lt La Lb R na nb
end
end L2
namespace L2
open PySem PySem.W PyProof.Rows
section
variable {prog : Program} {w : World} {A : Around} {E : Value -> Shared -> Prop} {s : Shared} {κ : SortKind} {it : Array Keyed} {lt : Nat -> Nat -> Bool} {N : Nat}
structure StAt (κ : SortKind) (it : Array Keyed) (st : SortSt) (L : List Nat) (pd : Array (Nat × Nat × Nat)) : Prop where
  k : kindOf st = κ
  a : arrOf st = (L.map (kas_item it)).toArray
  p : pendingOf st = pd
  f : failedOf st = none
end
end L2
namespace L2
open PySem PySem.W PyProof.Rows
section
variable {prog : Program} {w : World} {A : Around} {E : Value -> Shared -> Prop} {s : Shared} {κ : SortKind} {it : Array Keyed} {lt : Nat -> Nat -> Bool} {N : Nat}
structure StP (κ : SortKind) (it : Array Keyed) (st : SortSt) (p : Array Nat) (pd : Array (Nat × Nat × Nat)) : Prop where
  k : kindOf st = κ
  a : arrOf st = p.map (kas_item it)
  p : pendingOf st = pd
  f : failedOf st = none
def UpF (lt : Nat -> Nat -> Bool) (p : Array Nat) (lo n : Nat) : Prop := ∀ i j, lo <= i -> i <= j -> j < lo + n -> lt (p.getD j 0) (p.getD i 0) = false
end
end L2
namespace L2
open PySem PySem.W PyProof.Rows
section
variable {prog : Program} {w : World} {A : Around} {E : Value -> Shared -> Prop} {s : Shared} {κ : SortKind} {it : Array Keyed} {lt : Nat -> Nat -> Bool} {N : Nat}
def DownF (lt : Nat -> Nat -> Bool) (p : Array Nat) (lo n : Nat) : Prop := ∀ i j, lo <= i -> i <= j -> j < lo + n -> lt (p.getD i 0) (p.getD j 0) = false
end
end L2
namespace L2
open PySem PySem.W PyProof.Rows
section
variable {prog : Program} {w : World} {A : Around} {E : Value -> Shared -> Prop} {s : Shared} {κ : SortKind} {it : Array Keyed} {lt : Nat -> Nat -> Bool} {N : Nat}
inductive Rn (lt : Nat -> Nat -> Bool) (p : Array Nat) : Nat -> List (Nat × Nat × Nat) -> Nat -> Prop
  | nil (a : Nat) : Rn lt p a [] a
  | cons {a n pw b : Nat} {ps : List (Nat × Nat × Nat)} (h0 : 0 < n) (u : UpF lt p a n) (t : Rn lt p (a + n) ps b) : Rn lt p a ((a, n, pw) :: ps) b
end
end L2
namespace L2
open PySem PySem.W PyProof.Rows
section
variable {prog : Program} {w : World} {A : Around} {E : Value -> Shared -> Prop} {s : Shared} {κ : SortKind} {it : Array Keyed} {lt : Nat -> Nat -> Bool} {N : Nat}
end
end L2
namespace L2
open PySem PySem.W PyProof.Rows
section
variable {prog : Program} {w : World} {A : Around} {E : Value -> Shared -> Prop} {s : Shared}
end
end L2
namespace L2
open PySem PySem.W PyProof.Rows
section
variable {X : Cx}
def rSortedG (K : PySem.W.Frag) : List V -> Hp -> VK -> Prop := fun xs H Q => ∃ (p : Addr) (rs : List V) (kss : List (List Int)), xs = [.ref p] /\ SqL K H p rs /\ rs.length <= 1000000 /\ Paired (IntsAt H) rs kss /\ (∀ ks ∈ kss, ks ≠ []) /\
  ∀ (l : Addr) (rs' : List V) (kss' : List (List Int)), Paired (IntsAt H) rs' kss' -> kss'.Perm kss -> kss'.Pairwise LexLe -> H l = none -> Q (.ref l) (upd H l (.lst rs'))
end
end L2
namespace L2
open PySem PySem.Spec PyProof.Rows
section
variable {X : Cx}
def rCatS (K : PySem.W.Frag) : R2 := fun x y H Q => ∃ a b xs ys, x = .ref a /\ y = .ref b /\ SqT K H a xs /\ SqT K H b ys /\ xs.length + ys.length <= sizeLine /\ ∀ p H', Same H H' -> SqT K H' p (xs ++ ys) -> Q (.ref p) H'
end
end L2
namespace L2
open PySem PySem.W PyProof.Rows
section
variable {X : Cx}
def rSortedH (K : PySem.W.Frag) : List V -> Hp -> VK -> Prop := fun xs H Q => ∃ (p : Addr) (rs : List V) (kss : List (List Int)), xs = [.ref p] /\ SqL K H p rs /\ rs.length <= 1000000 /\ Paired (IntsAt H) rs kss /\ (2 <= kss.length -> ∀ ks ∈ kss, ks ≠ []) /\
  ∀ (l : Addr) (rs' : List V) (kss' : List (List Int)), Paired (IntsAt H) rs' kss' -> kss'.Perm kss -> kss'.Pairwise LexLe -> H l = none -> Q (.ref l) (upd H l (.lst rs'))
end
section
variable {prog : Program} {w : World} {A : Around}
abbrev mxC (I S : Addr) (d : Value) : Code := .builtin "max.loop" ⟨[.ref I, .none, .ref S], [("default", d)]⟩
abbrev mxO (c : Nat) (xs : Array Value) : Obj := { cls := .type "list", dict := none, data := .seq xs c, slots := #[] }
end
def maxD (d : Int) : List Int -> Int
  | [] => d
  | n :: ns => ns.foldl (fun a b => if b > a then b else a) n
section
variable {X : Cx}
theorem ints_at' {ns : List Int} {its : List Value} (r : Vals (ns.map V.int) its) {i : Nat} {v : Value} (e : its.toArray[i]? = some v) : ∃ t, v = .int (ns.getD i 0) t := by
  have e' : its[i]? = some v := by simpa using e
  have hl : i < its.length := (List.getElem?_eq_some_iff.mp e').1
  have hb : i < ns.length := by have := r.length; rw [List.length_map] at this; omega
  obtain ⟨u, e1, t, q⟩ := r.get (i := i) (x := V.int ns[i]) (by simp [hb])
  rw [e1] at e'
  cases e'
  exact ⟨t, by rw [q]; simp [List.getD, hb]⟩
def rMaxD (K : PySem.W.Frag) (vs : List V) (y : V) (H : Hp) (Q : VK) : Prop := ∃ p ns d, vs = [.ref p] /\ y = .int d /\ SqL K H p (ns.map V.int) /\ Q (.int (maxD d ns)) H
def tMaxD (K : PySem.W.Frag) (te td : TE) : TE := fun σ H Q => tCons te tNil σ H fun vs H1 => td σ H1 fun y H2 => rMaxD K vs y H2 Q
end
end L2
namespace L2
open PySem PySem.Spec PyProof.Rows
section
variable {X : Cx}
def inU (H : Hp) (ks : List Int) (u : Value) : Bool := match u with
  | .ref b => (match H b with | some (.tup ys) => decide (ys = ks.map V.int) | _ => false)
  | _ => false
def rInT (K : PySem.W.Frag) (neg : Bool) : R2 := fun x y H Q => ∃ a p rs ks kss, x = .ref a /\ y = .ref p /\ SqT K H a (ks.map V.int) /\ SqL K H p rs /\ Paired (IntsAt H) rs kss /\ Q (.bl (if neg then !decide (ks ∈ kss) else decide (ks ∈ kss))) H
end
end L2
namespace L2
open PySem PySem.W PyProof.Rows
section
variable {prog : Program} {w : World} {d : Addr} {es : Array DictEntry} {ep : Nat} {o : Obj}
end
section
variable {X : Cx}
def KeyAt (H : Hp) (v : V) (k : List Key) : Prop := ∃ b, v = .ref b /\ H b = some (.tup (k.map kV))
def rListD (K : PySem.W.Frag) : List V -> Hp -> VK -> Prop := fun xs H Q => ∃ (d : Addr) (kvs : TTab), xs = [.ref d] /\ H d = some (.dT kvs) /\ kvs.length <= 1000 /\ ∀ l rs, H l = none -> Paired (KeyAt H) rs (kvs.map (·.1)) -> Q (.ref l) (upd H l (.lst rs))
end
end L2
namespace L2
open PySem PySem.Spec PyProof.Rows
section
variable {X : Cx}
def rLeT (K : PySem.W.Frag) : R2 := fun x y H Q => ∃ a b ns ms, x = .ref a /\ y = .ref b /\ SqT K H a (ns.map V.int) /\ SqT K H b (ms.map V.int) /\ Q (.bl (lexLe (decide (ns.length <= ms.length)) ns ms)) H
theorem range_any_get (bs : List Bool) : (List.range bs.length).any (fun i => bs.getD i false) = bs.any id := by
  rw [Bool.eq_iff_iff, List.any_eq_true, List.any_eq_true]
  constructor
  · rintro ⟨i, hi, h⟩
    have hi' := List.mem_range.mp hi
    refine ⟨bs[i], List.getElem_mem hi', ?_⟩
    simpa [List.getD, hi'] using h
  · rintro ⟨x, hx, h⟩
    obtain ⟨i, hi, e⟩ := List.mem_iff_getElem.mp hx
    refine ⟨i, List.mem_range.mpr hi, ?_⟩
    simp [List.getD, hi, e]
    exact h
theorem call_any (hc : X.calm = true) : CallR X (.builtin "any") (fun xs H Q => ∃ (p : Addr) (bs : List Bool), xs = [.ref p] /\ SqL X.K H p (bs.map V.bl) /\ Q (.bl (bs.any id)) H) := by
  intro pins s σ H xs us Q I r h
  obtain ⟨p, bs, rfl, hp, q⟩ := h
  obtain ⟨u, rfl, ru⟩ := Vals.one r
  cases (show u = Value.ref p from ru)
  obtain ⟨its, r1, t1, _⟩ := I.list hp
  have hh : X.A.in1.handled = none := I.ok.hd hc
  have hlt : p < s.heap.objs.size := by obtain ⟨_, e, _⟩ := t1.isList; exact Heap.lt_size e
  refine call_any_walk (wpAny_pyIter_list t1.isList ⟨_, _, _, _, _, _, fun i => bs.getD i false, rfl, Walks.list hh _ p (Nat.ne_of_lt hlt) its.toArray, ⟨⟨_, Heap.get?_push_size _ rfl, rfl, rfl⟩, t1.isList.push _⟩, ?_, ?_⟩)
  · intro i v s' Q' E' e hq
    rw [bools_at r1 e]
    exact wpAny_truthy_bool hq
  · intro h' tk hk
    have hl : its.toArray.size = bs.length := by have := r1.length; simp at this ⊢; omega
    rw [hl, range_any_get]
    exact ⟨.bl _, H, I.kept (kept_iter hk), rfl, q⟩
def rInsert : V -> List V -> Hp -> VK -> Prop := fun x vs H Q => ∃ (l : Addr) (xs : List V) (i : Nat) (y : V), x = .ref l /\ vs = [.int (i : Int), y] /\ H l = some (.lst xs) /\ i <= xs.length /\ xs.length < 1000 /\ Q .non (upd H l (.lst (xs.take i ++ y :: xs.drop i)))
def rIndex (K : PySem.W.Frag) : V -> List V -> Hp -> VK -> Prop := fun x vs H Q => ∃ (l : Addr) (ns : List Int) (k : Int) (j : Nat), x = .ref l /\ vs = [.int k] /\ H l = some (.lst (ns.map V.int)) /\ ns.length < 1000 /\ ns[j]? = some k /\ (∀ m, m < j -> ns[m]? ≠ some k) /\ Q (.int (j : Int)) H
def isK (k : Int) (v : Value) : Bool := match v with | .int a _ => a == k | _ => false
end
end L2
namespace L2
open PySem PySem.Spec PyProof.Rows PySem.MeetsSeq
section
variable {X : Cx}
def rIndexT (K : PySem.W.Frag) : V -> List V -> Hp -> VK -> Prop := fun x vs H Q => ∃ (l : Addr) (ns : List Int) (k : Int) (j : Nat), x = .ref l /\ vs = [.int k] /\ SqT K H l (ns.map V.int) /\ ns[j]? = some k /\ (∀ m, m < j -> ns[m]? ≠ some k) /\ Q (.int (j : Int)) H
def rIsTs (K : PySem.W.Frag) : List V -> Hp -> VK -> Prop := fun xs H Q => ∃ (a p : Addr) (cs ys : List V) (T : String) (b : Bool), xs = [.ref a, .ref p] /\ SqT K H p cs /\ ((H a = some (.lst ys) /\ T = "list") \/ (H a = some (.tup ys) /\ T = "tuple")) /\ (∀ us, Vals cs us -> PySem.W.kitAny K (.type T) us = some b) /\ Q (.bl b) H
end
structure SrcD (K : PySem.W.Frag) (mg : Str -> Option Value) (x : Str) (st : Stmt) (ps : List Str) : Prop where
  ex : ∃ (f T : Addr) (oc : Value) (od : Option Addr) (kV doc pm : Value) (an : Option Addr) (cdv ct : Value) (osl : Array (Option Value)) (o : Obj) (n : Nat),
    K.lookup f = some ⟨oc, od, .func (PySem.W.fnOf x x (defArgs st) (defBody st) (defScope st) (.ref T) kV doc pm an cdv ct), osl⟩ /\ PySem.W.codeIn K cdv x = true /\ PySem.W.keepIn K (.ref f) = true /\ mg x = some (.ref f) /\
    K.lookup T = some o /\ o.data = .seq #[.none] n /\
    (∀ us : List Value, us.length = ps.length -> ∃ k : Option (Array Value) -> Sem (List (Str × Value)), bindArgs (PySem.W.fnOf x x (defArgs st) (defBody st) (defScope st) (.ref T) kV doc pm an cdv ct) ⟨us, []⟩ = seqItems? (.ref T) >>= k /\ k (some #[.none]) = pure (ps.zip us)) /\
    (∀ us : List Value, us.length + 1 = ps.length -> ∃ k : Option (Array Value) -> Sem (List (Str × Value)), bindArgs (PySem.W.fnOf x x (defArgs st) (defBody st) (defScope st) (.ref T) kV doc pm an cdv ct) ⟨us, []⟩ = seqItems? (.ref T) >>= k /\ k (some #[.none]) = pure (ps.zip (us ++ [.none])))
structure DefD (P : Program) (w : World) (K : PySem.W.Frag) (mg : Str -> Option Value) (base : Heap) (k : Nat) (x : Str) (ps : List Str) (sp : Sp) : Prop where
  ex : ∃ f fd, FnOk P w K mg base (CXr P w) k f fd ps sp /\ Binds K fd ps [] /\ Binds K fd ps [.none] /\ mg x = some (.ref f) /\ PySem.W.keepIn K (.ref f) = true
end L2
namespace L2
open PySem PySem.Spec PyProof.Rows PySem.MeetsSeq
def FzT (H : Hp) (a : Addr) (xs : List V) : Prop := ∃ o : Obj, o.cls = .type "tuple" /\ o.dict = none /\ H a = some (.frz o (.tup xs))
section
variable {X : Cx}
def tBMF (r : V -> List V -> Hp -> VK -> Prop) (to : TE) (t : TA) : TE := fun σ H Q => to σ H fun x H1 => (∃ a xs, x = .ref a /\ FzT H1 a xs) /\ t σ H1 fun xs H2 => r x xs H2 Q
variable {o e : Expr} {es : List Expr} {to : TE} {t : TA} {name : Str} {apos cpos : Pos} {id : String} {r : V -> List V -> Hp -> VK -> Prop}
def rIsTsF (K : PySem.W.Frag) : List V -> Hp -> VK -> Prop := fun xs H Q => ∃ (a p : Addr) (cs ys : List V) (T : String) (b : Bool), xs = [.ref a, .ref p] /\ SqT K H p cs /\ ((H a = some (.lst ys) /\ T = "list") \/ (FzT H a ys /\ T = "tuple")) /\ (∀ us, Vals cs us -> PySem.W.kitAny K (.type T) us = some b) /\ Q (.bl b) H
end
end L2
namespace HT
open PySem PySem.Spec PyProof.Rows
section
variable {prog : Program} {w : World} {A : Around} {E : Value -> Shared -> Prop} {s : Shared}
end
end HT
namespace L2
open PySem PySem.Spec PyProof.Rows
section
variable {X : Cx}
def rSlW (K : PySem.W.Frag) : V -> Option Int -> Option Int -> Hp -> VK -> Prop := fun x lo hi H Q => lo = none /\ hi = none /\ ((∃ a xs, x = .ref a /\ SqL K H a xs /\ ∀ p, H p = none -> Q (.ref p) (upd H p (.lst (cutV xs none none)))) \/ (∃ a xs, x = .ref a /\ SqT K H a xs /\ Q (.ref a) H))
end
end L2
namespace L2
open PySem PySem.Spec PyProof.Rows
section
open PySem.SeqAt
open PySem.AutoSeq1 (wpAny_loadPart')
open PySem.MeetsSeq PySem.MeetsSeq2 PySem.MeetsSeq3
def LtAt (A : Around) (s : Shared) (v u : Value) (r : Bool) : Prop := ∀ (prog : Program) (w : World) (E : Value -> Shared -> Prop) (Q : Value -> Shared -> Prop), Q (.bool r) s -> wpAny (model prog w) A (richCompare .Lt v u) Q E s
inductive CmpT (A : Around) (s : Shared) (z : Bool) : List Value -> List Value -> Bool -> Prop
  | nilL (ws : List Value) : CmpT A s z [] ws z
  | nilR (v : Value) (vs : List Value) : CmpT A s z (v :: vs) [] z
  | eq {v u : Value} {vs ws : List Value} {b : Bool} (e : EqAt A s v u true) (t : CmpT A s z vs ws b) : CmpT A s z (v :: vs) (u :: ws) b
  | ne {v u : Value} {vs ws : List Value} {r : Bool} (e : EqAt A s v u false) (t : LtAt A s v u r) : CmpT A s z (v :: vs) (u :: ws) r
end
end L2
namespace L2
open PySem PySem.W PyProof.Rows
section
variable {prog : Program} {w : World} {A : Around} {E : Value -> Shared -> Prop} {s : Shared}
end
section
variable {X : Cx}
def rSortedE (K : PySem.W.Frag) : List V -> Hp -> VK -> Prop := fun xs H Q => ∃ (p : Addr) (rs : List V) (kss : List (List Int)), xs = [.ref p] /\ SqL K H p rs /\ rs.length <= 1000000 /\ Paired (IntsAt H) rs kss /\ (kss.head? = some [] \/ ∀ ks ∈ kss, ks ≠ []) /\
  ∀ (l : Addr) (rs' : List V) (kss' : List (List Int)), Paired (IntsAt H) rs' kss' -> kss'.Perm kss -> kss'.Pairwise LexLe -> H l = none -> Q (.ref l) (upd H l (.lst rs'))
end
end L2
namespace L2
open PySem PySem.Spec PyProof.Rows
def csOf (env : Env) (C : Addr) (names : List (Str × NameKind)) : List (Str × Addr) := cellsFrom (C + 1) names (clOf env names [])
section
variable {env : Env} {C : Addr} {names : List (Str × NameKind)} {x : Str} {d : Addr}
end
def cxCompC (X : Cx) (scope : Scope) (N' : List Str) (fp : List Addr) (C : Addr) (s : Shared) (H : Hp) : Cx where
  prog := X.prog
  w := X.w
  K := X.K
  mg := X.mg
  base := X.base
  A := X.A
  N := N'
  s₀ := s
  H₀ := H
  env := compEnvC scope (csOf X.env C scope.names) C X.env
  outer := X.stack
  stack := X.stack
  ex := fp
  fn := fun y => scope.names.lookup y == some NameKind.cell
  calm := true
  pn := X.pn
  xe := fun _ _ => False
structure CompOkC (X : Cx) (scope : Scope) (N' : List Str) (fr : List (Option Nat)) : Prop where
  kind : scope.kind = .function
  own : ∀ y ∈ scope.names, y.2 = .cell -> scope.names.lookup y.1 = some .cell
  names : ∀ y ∈ scope.names, y.2 = .local -> scope.names.lookup y.1 = some .local
  frees : ∀ y ∈ scope.names, y.2 = .free -> X.env.kindOf y.1 = some .cell \/ X.env.kindOf y.1 = some .free
  fr : frOk X.N X.env.scope.names scope.names N' fr = true
def compBC (kinds : List (Str × NameKind)) (N : List Str) (scope : Scope) (N' : List Str) (fr : List (Option Nat)) : Bool :=
  (scope.kind == .function) && (scope.names.all fun y => y.2 != .cell || scope.names.lookup y.1 == some .cell) && (scope.names.all fun y => y.2 != .local || scope.names.lookup y.1 == some .local) &&
  (scope.names.all fun y => y.2 != .free || (kinds.lookup y.1 == some .cell || kinds.lookup y.1 == some .free)) && frOk N kinds scope.names N' fr
section
variable {X : Cx} {scope : Scope} {N' : List Str} {fr : List (Option Nat)} {pins : List (Addr × Obj)} {σ : St} {H : Hp} {s : Shared} {fp : List Addr}
end
section
variable {X : Cx} {scope : Scope} {N' : List Str} {fr : List (Option Nat)} {pins : List (Addr × Obj)} {σ : St} {H : Hp} {s : Shared} {fp : List Addr} {it : Addr} {tn : Nat -> Heap -> Prop} {J : It}
  {elt tg iter : Expr} {ifs : List Expr} {g : TG} {tt : TT} {te : TE} {pos : Pos} {fin : List V -> Hp -> Prop} {W : Nat -> Nat -> List V -> St -> Hp -> Prop} {RR : Value -> Addr -> Result -> Shared -> Prop} {E : Value -> Shared -> Prop}
end
end L2
namespace L2
open PySem PySem.Spec PyProof.Rows PySem.MeetsSeq PySem.AutoSeq1
def rExtendT (K : PySem.W.Frag) : V -> List V -> Hp -> VK -> Prop := fun x vs H Q => ∃ l b xs zs, x = .ref l /\ vs = [.ref b] /\ H l = some (.lst xs) /\ SqT K H b zs /\ xs.length + zs.length <= sizeLine /\ Q .non (upd H l (.lst (xs ++ zs)))
end L2
namespace L2
open PySem PySem.Spec PyProof.Rows
section
variable {X : Cx}
def rPick2 (K : PySem.W.Frag) (f : Int -> Int -> Int) : List V -> Hp -> VK -> Prop := fun xs H Q => ∃ (p : Addr) (x y : Int), xs = [.ref p] /\ SqT K H p [.int x, .int y] /\ Q (.int (f x y)) H
end
def rLenK (K : PySem.W.Frag) : List V -> Hp -> VK -> Prop := fun xs H Q => ∃ p ys, xs = [.ref p] /\ (SqL K H p ys \/ SqT K H p ys) /\ Q (.int ys.length) H
def rIsiK (K : PySem.W.Frag) : List V -> Hp -> VK -> Prop := fun xs H Q => ∃ x c t u b, xs = [x, c] /\ RelV c u /\ TyOf K H x t /\ PySem.W.kitOne K t u = some b /\ Q (.bl b) H
def rTupOfK (K : PySem.W.Frag) : List V -> Hp -> VK -> Prop := fun xs H Q => ∃ p ys, xs = [.ref p] /\ ((SqL K H p ys /\ ∀ l, H l = none -> Q (.ref l) (upd H l (.tup ys))) \/ (SqT K H p ys /\ Q (.ref p) H))
def rListOfK (K : PySem.W.Frag) : List V -> Hp -> VK -> Prop := fun xs H Q => ∃ p ys, xs = [.ref p] /\ (SqL K H p ys \/ SqT K H p ys) /\ ∀ l, H l = none -> Q (.ref l) (upd H l (.lst ys))
theorem seq_abs {A B : TS} {D : Ends} {σ : St} {H : Hp} (h : ∀ M : St -> Hp -> Prop, (∀ σ H, B D σ H -> M σ H) -> A { D with nx := M } σ H) : tSeq A B D σ H := h _ fun _ _ z => z
section
variable {X : Cx} (K : PySem.W.Frag)
theorem ix_listK (h : X.K = K := by rfl) : IxR X (rIxL K) := h ▸ ix_list
theorem ix_tupK (h : X.K = K := by rfl) : IxR X (rIxT K) := h ▸ ix_tup
theorem sl_listK (h : X.K = K := by rfl) : SlR X (rSlL K) := h ▸ sl_list
theorem call_lenK (h : X.K = K := by rfl) : CallR X (.builtin "len") (rLenK K) := h ▸ call_len_seq
theorem call_isiK (h : X.K = K := by rfl) : CallR X (.builtin "isinstance") (rIsiK K) := h ▸ call_isinst
theorem call_tuple_ofK (h : X.K = K := by rfl) : CallR X (.type "tuple") (rTupOfK K) := h ▸ call_tuple_of
theorem call_list_ofK (h : X.K = K := by rfl) : CallR X (.type "list") (rListOfK K) := h ▸ call_list_of
theorem op_eqNilK (hu : X.A.units + 66 < cLine) (h : X.K = K := by rfl) : OpR X (compareOp .Eq) (rNil K false) := h ▸ op_eqNil hu
theorem op_neNilK (hu : X.A.units + 66 < cLine) (h : X.K = K := by rfl) : OpR X (compareOp .NotEq) (rNil K true) := h ▸ op_neNil hu
theorem op_neSK (hu : X.A.units + 66 < cLine) (h : X.K = K := by rfl) : OpR X (compareOp .NotEq) (rSame K false) := h ▸ op_neS hu
theorem pi_seqK {tg : Expr} (k : Kd) {l : Expr} {tl : TE} (hl : PE X l tl) (h : X.K = K := by rfl) : PI X tg l (iSeq k K tl) := h ▸ pi_seq k hl
theorem pg_tupK (n : Nat) {es : List Expr} {k : Nat} {t : TGs} {pos : Pos} (hc : X.calm = true) (h : PGs X es t)
    (hn : (assignEach es X.env).length = n := by rfl) (hst : (assignEach es X.env).findIdx? (·.1) = none := by rfl) (hK : X.K = K := by rfl) : PG X (.Tuple es k pos) (gTup K n t) := hK ▸ pg_tup hc h hn hst
theorem pi_enumK {elts : List Expr} {x1 : Nat} {tpos : Pos} {l : Expr} {ta : TA} {p pos : Pos} (k : Kd) (hg : Gl X "enumerate") (hm : X.mg "enumerate" = none) (ha : PA X [l] ta) (hs : starEach [l] X.env = [(false, eval l X.env)] := by rfl) (h : X.K = K := by rfl) :
    PI X (.Tuple elts x1 tpos) (.Call (.Name "enumerate" p) [l] [] pos) (iEnum k K ta) := h ▸ pi_enum k hg hm ha hs
end
def rPick2L (K : PySem.W.Frag) (f : Int -> Int -> Int) : List V -> Hp -> VK -> Prop := fun xs H Q => ∃ (p : Addr) (x y : Int), xs = [.ref p] /\ SqL K H p [.int x, .int y] /\ Q (.int (f x y)) H
section
variable {X : Cx}
theorem call_max2L (hc : X.calm = true) : CallR X (.builtin "max") (rPick2L X.K fun x y => if y > x then y else x) := by
  intro pins s σ H xs us Q I r h
  obtain ⟨p, x, y, rfl, hp, q⟩ := h
  obtain ⟨u1, rfl, ru⟩ := Vals.one r
  cases (show u1 = Value.ref p from ru)
  obtain ⟨its, rr, t1, _⟩ := I.list hp
  replace rr : Vals ([x, y].map V.int) its := rr
  have hh : X.A.in1.handled = none := I.ok.hd hc
  have hlt : p < s.heap.objs.size := by obtain ⟨_, e, _⟩ := t1.isList; exact Heap.lt_size e
  have hz : its.toArray.size = 2 := by have := rr.length; rw [List.length_map] at this; simp at this ⊢; lia
  refine call_max_walk (wpAny_pyIter_list t1.isList ⟨_, _, _, _, _, _, _, rfl, Walks.list hh _ p (Nat.ne_of_lt hlt) its.toArray, ⟨⟨_, Heap.get?_push_size _ rfl, rfl, rfl⟩, t1.isList.push _⟩, ?_, by lia, CmpOf.ints_gt (fun i => [x, y].getD i 0) (fun i v e => ints_at' rr e), ?_⟩)
  · intro c hc'
    show c < (s.heap.push _).objs.size
    rw [Heap.size_push]
    rcases List.mem_cons.mp hc' with rfl | hc'
    · exact Nat.lt_succ_self _
    · rw [List.mem_singleton.mp hc']; exact Nat.lt_succ_of_lt hlt
  · intro v h' tk hP hk
    rw [hz] at hP
    obtain ⟨t, e⟩ := ints_at' rr hP
    refine ⟨.int (if y > x then y else x), H, I.kept (kept_iter hk), ⟨t, ?_⟩, q⟩
    rw [e]
    congr 1
    show [x, y].getD (if decide (y > x) = true then 1 else 0) 0 = _
    by_cases g : y > x
    · rw [decide_eq_true g, if_pos rfl, if_pos g]; rfl
    · rw [decide_eq_false g, if_neg (by decide), if_neg g]; rfl
theorem call_min2L (hc : X.calm = true) : CallR X (.builtin "min") (rPick2L X.K fun x y => if y < x then y else x) := by
  intro pins s σ H xs us Q I r h
  obtain ⟨p, x, y, rfl, hp, q⟩ := h
  obtain ⟨u1, rfl, ru⟩ := Vals.one r
  cases (show u1 = Value.ref p from ru)
  obtain ⟨its, rr, t1, _⟩ := I.list hp
  replace rr : Vals ([x, y].map V.int) its := rr
  have hh : X.A.in1.handled = none := I.ok.hd hc
  have hlt : p < s.heap.objs.size := by obtain ⟨_, e, _⟩ := t1.isList; exact Heap.lt_size e
  have hz : its.toArray.size = 2 := by have := rr.length; rw [List.length_map] at this; simp at this ⊢; lia
  refine call_min_walk (wpAny_pyIter_list t1.isList ⟨_, _, _, _, _, _, _, rfl, Walks.list hh _ p (Nat.ne_of_lt hlt) its.toArray, ⟨⟨_, Heap.get?_push_size _ rfl, rfl, rfl⟩, t1.isList.push _⟩, ?_, by lia, CmpOf.ints_lt (fun i => [x, y].getD i 0) (fun i v e => ints_at' rr e), ?_⟩)
  · intro c hc'
    show c < (s.heap.push _).objs.size
    rw [Heap.size_push]
    rcases List.mem_cons.mp hc' with rfl | hc'
    · exact Nat.lt_succ_self _
    · rw [List.mem_singleton.mp hc']; exact Nat.lt_succ_of_lt hlt
  · intro v h' tk hP hk
    rw [hz] at hP
    obtain ⟨t, e⟩ := ints_at' rr hP
    refine ⟨.int (if y < x then y else x), H, I.kept (kept_iter hk), ⟨t, ?_⟩, q⟩
    rw [e]
    congr 1
    show [x, y].getD (if decide (y < x) = true then 1 else 0) 0 = _
    by_cases g : y < x
    · rw [decide_eq_true g, if_pos rfl, if_pos g]; rfl
    · rw [decide_eq_false g, if_neg (by decide), if_neg g]; rfl
end
end L2
namespace My
open PySem L2
def top (i : Nat) : Stmt := PySem.Challenge.pw_manycounts_k83_turned_over.main.body.getD i (.Pass ⟨0, 0, 0, 0⟩)
abbrev sIsWhole : Stmt := top 5
abbrev sWithin : Stmt := top 6
abbrev sLesser : Stmt := top 8
abbrev sNoPt : Stmt := top 9
abbrev sWhole : Stmt := top 10
abbrev sTiesAt : Stmt := top 12
abbrev sTurn : Stmt := top 13
abbrev sNotAp : Stmt := top 14
abbrev sEndIn : Stmt := top 15
abbrev sHeads : Stmt := top 17
abbrev sRank : Stmt := top 18
abbrev sAt : Stmt := top 20
abbrev sWeb : Stmt := top 21
abbrev sMarks : Stmt := top 22
abbrev sLRank : Stmt := top 23
abbrev sPick : Stmt := top 24
abbrev sApart : Stmt := top 25
abbrev sLTurn : Stmt := top 26
abbrev sIsWeb : Stmt := top 27
abbrev sLaw : Stmt := top 28
def TieAt (H : Hp) (v : V) (p : Int × Int) : Prop := ∃ a, v = .ref a /\ H a = some (.tup [.int p.1, .int p.2])
theorem TieAt.same {H H' : Hp} {v : V} {p : Int × Int} (h : TieAt H v p) (e : Same H H') : TieAt H' v p := let ⟨a, h1, h2⟩ := h; ⟨a, h1, e _ _ h2⟩
theorem ties_same {H H' : Hp} {xs : List V} {ps : List (Int × Int)} (h : Paired (TieAt H) xs ps) (e : Same H H') : Paired (TieAt H') xs ps := L2.Paired.mapP h fun _ _ q => q.same e
def norm (p : Int × Int) : Int × Int := if p.1 <= p.2 then (p.1, p.2) else (p.2, p.1)
structure WebAt (H : Hp) (w : V) (n : Int) (ps : List (Int × Int)) : Prop where
  ex : ∃ c d xs, w = .ref c /\ H c = some (.tup [.int n, .ref d]) /\ H d = some (.tup xs) /\ Paired (TieAt H) xs ps
theorem WebAt.same {H H' : Hp} {w : V} {n : Int} {ps : List (Int × Int)} (h : WebAt H w n ps) (e : Same H H') : WebAt H' w n ps := by
  obtain ⟨c, d, xs, h1, h2, h3, h4⟩ := h.ex
  exact ⟨c, d, xs, h1, e _ _ h2, e _ _ h3, ties_same h4 e⟩
structure Txt (K : W.Frag) (mg : Str -> Option Value) : Prop where
  isi : mg "isinstance" = none
  int : mg "int" = none
  bool : mg "bool" = none
  len : mg "len" = none
  tuple : mg "tuple" = none
  all : mg "all" = none
  list : mg "list" = none
  min : mg "min" = none
  max : mg "max" = none
  range : mg "range" = none
  set : mg "set" = none
  sorted : mg "sorted" = none
theorem boot_isi : bootBuiltins "isinstance" = some (.builtin "isinstance") := by first | rfl | decide +kernel
theorem boot_int' : bootBuiltins "int" = some (.type "int") := by first | rfl | decide +kernel
theorem boot_bool' : bootBuiltins "bool" = some (.type "bool") := by first | rfl | decide +kernel
theorem boot_tuple' : bootBuiltins "tuple" = some (.type "tuple") := by first | rfl | decide +kernel
theorem boot_list' : bootBuiltins "list" = some (.type "list") := by first | rfl | decide +kernel
theorem boot_min' : bootBuiltins "min" = some (.builtin "min") := by first | rfl | decide +kernel
theorem boot_max' : bootBuiltins "max" = some (.builtin "max") := by first | rfl | decide +kernel
def InN (n : Int) (p : Int × Int) : Prop := 0 <= p.1 /\ p.1 < n /\ 0 <= p.2 /\ p.2 < n
theorem mod_in (a n : Int) (h : 0 < n) : 0 <= a % n /\ a % n < n := ⟨Int.emod_nonneg _ (by lia), Int.emod_lt_of_pos _ h⟩
theorem cut_map (ns : List Int) (lo hi : Option Int) : ∃ ms : List Int, cutV (ns.map V.int) lo hi = ms.map V.int /\ ms.length <= ns.length := by
  refine ⟨(ns.drop (HT.sIx (ns.map V.int).length 0 lo)).take (HT.sIx (ns.map V.int).length (ns.map V.int).length hi - HT.sIx (ns.map V.int).length 0 lo), ?_, ?_⟩
  · unfold cutV
    rw [List.map_take, List.map_drop]
  · rw [List.length_take, List.length_drop]; lia
def ups (n : Int) : List Int := (List.range n.toNat).map fun (i : Nat) => (i : Int)
theorem upN_ups (n : Nat) : upN n = (ups n).map V.int := by
  unfold upN ups
  rw [List.map_map, Int.toNat_natCast]
  rfl
def at0 (l : List Int) (i : Int) : Int := l.getD i.toNat 0
def stepH (hs : List Int) (p : Int × Int) : List Int :=
  hs.map fun h => if h = (if at0 hs p.2 > at0 hs p.1 then at0 hs p.2 else at0 hs p.1) then (if at0 hs p.2 < at0 hs p.1 then at0 hs p.2 else at0 hs p.1) else h
def tieN (ps : List (Int × Int)) (k : Int) : Int × Int := ps.getD k.toNat (0, 0)
def hdF (ps : List (Int × Int)) (hs : List Int) (ks : List Int) : List Int := ks.foldl (fun hs k => stepH hs (tieN ps k)) hs
def stepM (st : List Int × Int) (p : Int × Int) : List Int × Int :=
  if at0 st.1 p.1 = at0 st.1 p.2 then st else (st.1.map fun m => if m = at0 st.1 p.2 then at0 st.1 p.1 else m, st.2 + 1)
def rkF (ps : List (Int × Int)) (st : List Int × Int) (ks : List Int) : List Int × Int := ks.foldl (fun st k => stepM st (tieN ps k)) st
def rk (n : Int) (ps : List (Int × Int)) (ks : List Int) : Int := (rkF ps (ups n, 0) ks).2
theorem dcr_merge (u v : Int) (huv : u ≠ v) : ∀ l : List Int, dcr (l.map fun x => if x = v then u else x) + (if u ∈ l /\ v ∈ l then 1 else 0) = dcr l
  | [] => by simp [dcr]
  | x :: xs => by
    have ih := dcr_merge u v huv xs
    have mem : ∀ z, z ≠ v -> (z ∈ xs.map (fun x => if x = v then u else x) ↔ z ∈ xs \/ (z = u /\ v ∈ xs)) := by
      intro z hz
      rw [List.mem_map]
      constructor
      · rintro ⟨y, hy, e⟩
        by_cases hyv : y = v
        · rw [if_pos hyv] at e
          exact .inr ⟨e.symm, hyv ▸ hy⟩
        · rw [if_neg hyv] at e
          exact .inl (e ▸ hy)
      · rintro (h | ⟨rfl, h⟩)
        · exact ⟨z, h, if_neg hz⟩
        · exact ⟨v, h, if_pos rfl⟩
    rw [List.map_cons]
    show dcr (xs.map fun x => if x = v then u else x) + (if (if x = v then u else x) ∈ xs.map (fun x => if x = v then u else x) then 0 else 1) + _ = dcr xs + if x ∈ xs then 0 else 1
    generalize hd : dcr (xs.map fun x => if x = v then u else x) = d at ih
    generalize hd2 : dcr xs = d2 at ih
    by_cases hxv : x = v
    · subst hxv
      rw [if_pos rfl]
      have m := mem u huv
      by_cases h1 : u ∈ xs <;> by_cases h2 : x ∈ xs <;> simp [m, h1, h2, huv] at ih ⊢ <;> lia
    · rw [if_neg hxv]
      have m := mem x hxv
      by_cases hxu : x = u
      · subst hxu
        by_cases h1 : x ∈ xs <;> by_cases h2 : v ∈ xs <;> simp [m, h1, h2, Ne.symm huv] at ih ⊢ <;> lia
      · have e1 : ¬ (u = x) := fun z => hxu z.symm
        have e2 : ¬ (v = x) := fun z => hxv z.symm
        by_cases h1 : u ∈ xs <;> by_cases h2 : v ∈ xs <;> by_cases h3 : x ∈ xs <;> simp [m, h1, h2, h3, e1, e2, hxu] at ih ⊢ <;> lia
theorem dcount_merge {u v : Int} (huv : u ≠ v) {l : List Int} (h1 : u ∈ l) (h2 : v ∈ l) : dcount (l.map fun x => if x = v then u else x) + 1 = dcount l := by
  unfold dcount
  rw [<- List.map_reverse]
  have := dcr_merge u v huv l.reverse
  rw [if_pos ⟨List.mem_reverse.mpr h1, List.mem_reverse.mpr h2⟩] at this
  exact this
def Rel (n : Nat) (hs ms : List Int) : Prop := ∀ i j, i < n -> j < n -> (hs.getD i 0 = hs.getD j 0 ↔ ms.getD i 0 = ms.getD j 0)
theorem getD_map {l : List Int} {f : Int -> Int} {i : Nat} (h : i < l.length) : (l.map f).getD i 0 = f (l.getD i 0) := by simp [List.getD, h]
theorem getD_mem {l : List Int} {i : Nat} (h : i < l.length) : l.getD i 0 ∈ l := by simp [List.getD, h]
theorem stepH_same {hs : List Int} {p : Int × Int} (h : at0 hs p.1 = at0 hs p.2) : stepH hs p = hs := by
  unfold stepH
  rw [h]
  have e : (fun x : Int => if x = (if at0 hs p.2 > at0 hs p.2 then at0 hs p.2 else at0 hs p.2) then (if at0 hs p.2 < at0 hs p.2 then at0 hs p.2 else at0 hs p.2) else x) = id := by
    funext x
    show _ = x
    split <;> simp_all
  rw [e, List.map_id]
theorem stepH_ne {hs : List Int} {p : Int × Int} (h : at0 hs p.1 ≠ at0 hs p.2) : ∃ u v, u ≠ v /\ stepH hs p = hs.map (fun x => if x = v then u else x) /\ ((u = at0 hs p.1 /\ v = at0 hs p.2) \/ (u = at0 hs p.2 /\ v = at0 hs p.1)) := by
  unfold stepH
  by_cases hlt : at0 hs p.2 < at0 hs p.1
  · refine ⟨at0 hs p.2, at0 hs p.1, fun z => h z.symm, ?_, .inr ⟨rfl, rfl⟩⟩
    rw [if_neg (by lia), if_pos hlt]
  · have : at0 hs p.2 > at0 hs p.1 := by lia
    refine ⟨at0 hs p.1, at0 hs p.2, h, ?_, .inl ⟨rfl, rfl⟩⟩
    rw [if_pos this, if_neg hlt]
theorem norm_cases (p : Int × Int) : (norm p).1 = p.1 /\ (norm p).2 = p.2 \/ (norm p).1 = p.2 /\ (norm p).2 = p.1 := by
  unfold norm
  split
  · exact .inl ⟨rfl, rfl⟩
  · exact .inr ⟨rfl, rfl⟩
theorem merge_eq {u v x y : Int} (huv : u ≠ v) : ((if x = v then u else x) = (if y = v then u else y)) ↔ (x = y \/ ((x = u \/ x = v) /\ (y = u \/ y = v))) := by
  split <;> split <;> lia
theorem step_inv {n : Nat} {hs ms : List Int} {c : Int} {p : Int × Int} (lh : hs.length = n) (lm : ms.length = n) (R : Rel n hs ms) (hc : c + (dcount hs : Int) = n) (hp : InN n p) :
    (stepH hs (norm p)).length = n /\ (stepM (ms, c) p).1.length = n /\ Rel n (stepH hs (norm p)) (stepM (ms, c) p).1 /\ (stepM (ms, c) p).2 + (dcount (stepH hs (norm p)) : Int) = n := by
  obtain ⟨p1, p2, p3, p4⟩ := hp
  have a1 : p.1.toNat < n := by lia
  have a2 : p.2.toNat < n := by lia
  have r12 := R p.1.toNat p.2.toNat a1 a2
  have swap : at0 hs (norm p).1 = at0 hs (norm p).2 ↔ at0 hs p.1 = at0 hs p.2 := by
    rcases norm_cases p with ⟨e1, e2⟩ | ⟨e1, e2⟩ <;> rw [e1, e2]
    exact eq_comm
  by_cases he : at0 hs p.1 = at0 hs p.2
  · have em : at0 ms p.1 = at0 ms p.2 := r12.mp he
    have e1 : stepH hs (norm p) = hs := stepH_same (swap.mpr he)
    have e2 : stepM (ms, c) p = (ms, c) := by unfold stepM; exact if_pos em
    rw [e1, e2]
    exact ⟨lh, lm, R, hc⟩
  · have em : ¬ at0 ms p.1 = at0 ms p.2 := fun z => he (r12.mpr z)
    have e2 : stepM (ms, c) p = (ms.map (fun m => if m = at0 ms p.2 then at0 ms p.1 else m), c + 1) := by unfold stepM; exact if_neg em
    obtain ⟨u, v, huv, e1, hu⟩ := stepH_ne (hs := hs) (p := norm p) (fun z => he (swap.mp z))
    have hu' : (u = at0 hs p.1 /\ v = at0 hs p.2) \/ (u = at0 hs p.2 /\ v = at0 hs p.1) := by
      rcases norm_cases p with ⟨f1, f2⟩ | ⟨f1, f2⟩ <;> rw [f1, f2] at hu
      · exact hu
      · exact hu.symm
    have m1 : at0 hs p.1 ∈ hs := getD_mem (by lia)
    have m2 : at0 hs p.2 ∈ hs := getD_mem (by lia)
    have mu : u ∈ hs := by rcases hu' with ⟨z, _⟩ | ⟨z, _⟩ <;> rw [z] <;> assumption
    have mv : v ∈ hs := by rcases hu' with ⟨_, z⟩ | ⟨_, z⟩ <;> rw [z] <;> assumption
    rw [e1, e2]
    refine ⟨by rw [List.length_map]; exact lh, by rw [List.length_map]; exact lm, fun i j hi hj => ?_, ?_⟩
    · rw [getD_map (by lia), getD_map (by lia), getD_map (by lia), getD_map (by lia), merge_eq huv, merge_eq em]
      have ri := R i p.1.toNat hi a1
      have ri2 := R i p.2.toNat hi a2
      have rj := R j p.1.toNat hj a1
      have rj2 := R j p.2.toNat hj a2
      have rij := R i j hi hj
      have ti : (hs.getD i 0 = u \/ hs.getD i 0 = v) ↔ (ms.getD i 0 = at0 ms p.1 \/ ms.getD i 0 = at0 ms p.2) := by
        rcases hu' with ⟨z1, z2⟩ | ⟨z1, z2⟩
        · rw [z1, z2]; exact or_congr ri ri2
        · rw [z1, z2]; exact (or_congr ri2 ri).trans or_comm
      have tj : (hs.getD j 0 = u \/ hs.getD j 0 = v) ↔ (ms.getD j 0 = at0 ms p.1 \/ ms.getD j 0 = at0 ms p.2) := by
        rcases hu' with ⟨z1, z2⟩ | ⟨z1, z2⟩
        · rw [z1, z2]; exact or_congr rj rj2
        · rw [z1, z2]; exact (or_congr rj2 rj).trans or_comm
      exact or_congr rij (and_congr ti tj)
    · have := dcount_merge huv mu mv
      show c + 1 + (dcount (hs.map fun x => if x = v then u else x) : Int) = n
      lia
theorem tieN_in {n : Int} {ps : List (Int × Int)} {k : Int} (hb : ∀ p ∈ ps, InN n p) (k0 : 0 <= k) (kl : k < ps.length) : InN n (tieN ps k) := by
  have : k.toNat < ps.length := by lia
  unfold tieN
  refine hb _ ?_
  simp [List.getD, this]
theorem tieN_norm {ps : List (Int × Int)} {k : Int} (k0 : 0 <= k) (kl : k < ps.length) : tieN (ps.map norm) k = norm (tieN ps k) := by
  have : k.toNat < ps.length := by lia
  unfold tieN
  simp [List.getD, this]
theorem run_inv {n : Nat} {ps : List (Int × Int)} (hb : ∀ p ∈ ps, InN n p) : ∀ (ks : List Int), (∀ k ∈ ks, 0 <= k /\ k < ps.length) -> ∀ (hs ms : List Int) (c : Int), hs.length = n -> ms.length = n -> Rel n hs ms -> c + (dcount hs : Int) = n ->
    (rkF ps (ms, c) ks).2 + (dcount (hdF (ps.map norm) hs ks) : Int) = n
  | [], _, hs, ms, c, _, _, _, hc => hc
  | k :: ks, hk, hs, ms, c, lh, lm, R, hc => by
    obtain ⟨k0, kl⟩ := hk k List.mem_cons_self
    obtain ⟨s1, s2, s3, s4⟩ := step_inv lh lm R hc (tieN_in hb k0 kl)
    have := run_inv hb ks (fun j hj => hk j (List.mem_cons_of_mem _ hj)) _ _ _ s1 s2 s3 s4
    rw [<- tieN_norm k0 kl] at this
    exact this
theorem ups_len (n : Int) : (ups n).length = n.toNat := by unfold ups; simp
theorem nine {n : Int} (h1 : 1 <= n) (h9 : n <= 9) : n = 1 \/ n = 2 \/ n = 3 \/ n = 4 \/ n = 5 \/ n = 6 \/ n = 7 \/ n = 8 \/ n = 9 := by lia
theorem ups_dc {n : Int} (h1 : 1 <= n) (h9 : n <= 9) : (dcount (ups n) : Int) = n := by
  rcases nine h1 h9 with rfl | rfl | rfl | rfl | rfl | rfl | rfl | rfl | rfl <;> decide +kernel
theorem rank_eq {n : Int} {ps : List (Int × Int)} {ks : List Int} (h1 : 1 <= n) (h9 : n <= 9) (hb : ∀ p ∈ ps, InN n p) (hk : ∀ k ∈ ks, 0 <= k /\ k < ps.length) : n - (dcount (hdF (ps.map norm) (ups n) ks) : Int) = rk n ps ks := by
  have e : ((n.toNat : Nat) : Int) = n := by lia
  have := run_inv (n := n.toNat) (ps := ps) (by rw [e]; exact hb) ks hk (ups n) (ups n) 0 (ups_len n) (ups_len n) (fun i j _ _ => Iff.rfl) (by rw [ups_dc h1 h9]; lia)
  unfold rk
  lia
theorem stepH_len (hs : List Int) (p : Int × Int) : (stepH hs p).length = hs.length := by unfold stepH; simp
theorem hdF_snoc (ps : List (Int × Int)) (hs ks : List Int) (k : Int) : hdF ps hs (ks ++ [k]) = stepH (hdF ps hs ks) (tieN ps k) := by unfold hdF; rw [List.foldl_append]; rfl
theorem rkF_snoc (ps : List (Int × Int)) (st : List Int × Int) (ks : List Int) (k : Int) : rkF ps st (ks ++ [k]) = stepM (rkF ps st ks) (tieN ps k) := by unfold rkF; rw [List.foldl_append]; rfl
theorem hdF_len (ps : List (Int × Int)) : ∀ (ks hs : List Int), (hdF ps hs ks).length = hs.length
  | [], _ => rfl
  | k :: ks, hs => by
    show (hdF ps (stepH hs (tieN ps k)) ks).length = _
    rw [hdF_len ps ks, stepH_len]
theorem stepM_len (st : List Int × Int) (p : Int × Int) : (stepM st p).1.length = st.1.length := by unfold stepM; split <;> simp
theorem rkF_len (ps : List (Int × Int)) : ∀ (ks : List Int) (st : List Int × Int), (rkF ps st ks).1.length = st.1.length
  | [], _ => rfl
  | k :: ks, st => by
    show (rkF ps (stepM st (tieN ps k)) ks).1.length = _
    rw [rkF_len ps ks, stepM_len]
theorem boot_range' : bootBuiltins "range" = some (.type "range") := by first | rfl | decide +kernel
theorem boot_set' : bootBuiltins "set" = some (.type "set") := by first | rfl | decide +kernel
theorem for_seqK {k : Kd} {K : W.Frag} {a : Addr} {xs : List V} {g : TG} {tb : TS} {D : Ends} {σ : St} {H : Hp} (Pv : Nat -> St -> Hp -> Prop) (h0 : Pv 0 σ H) (hl : ∀ i σ H, i <= xs.length -> Pv i σ H -> SqK k K H a xs)
    (hs : ∀ (i : Nat) (x : V) (σ : St) (H : Hp), xs[i]? = some x -> Pv i σ H -> g x σ H fun σ2 H2 => tb { D with nx := Pv (i + 1), ct := Pv (i + 1), bk := D.nx } σ2 H2) (hd : ∀ σ H, Pv xs.length σ H -> D.nx σ H) :
    ∃ W : Nat -> Nat -> St -> Hp -> Prop, (∃ m, W 0 m σ H) /\ ∀ i m σ H, W i m σ H ->
      ((ItK k K a).stop i H /\ D.nx σ H) \/ ((ItK k K a).go i H /\ ∃ N : St -> Hp -> Prop, (∀ σ' H', N σ' H' -> ∃ m', m' < m /\ W (i + 1) m' σ' H') /\ ∀ x H', (ItK k K a).yld i H x H' -> g x σ H' fun σ2 H2 => tb { D with nx := N, ct := N, bk := D.nx } σ2 H2) := by
  refine ⟨fun i m σ H => m = xs.length - i /\ i <= xs.length /\ Pv i σ H, ⟨xs.length, by simp, Nat.zero_le _, h0⟩, ?_⟩
  rintro i m σ H ⟨rfl, hi, p⟩
  have q := hl i σ H hi p
  by_cases hlt : i < xs.length
  · refine .inr ⟨itk_go q hlt, Pv (i + 1), fun σ' H' p' => ⟨xs.length - (i + 1), by lia, rfl, hlt, p'⟩, fun x H' y => ?_⟩
    obtain ⟨e, hy2⟩ := itk_yld q y
    subst e
    exact hs i x σ H' hy2 p
  · have e : i = xs.length := by lia
    subst e
    exact .inl ⟨itk_stop q (Nat.le_refl _), hd σ H p⟩
theorem at_int {l : List Int} {i : Int} (h0 : 0 <= i) (hl : i < l.length) : atI (l.map V.int) i = some (.int (at0 l i)) := by
  obtain ⟨j, rfl⟩ := Int.eq_ofNat_of_zero_le h0
  have hj : j < l.length := by lia
  refine atI_nat ?_
  unfold at0
  simp [List.getD, hj]
theorem at_tie {H : Hp} {xs : List V} {ps : List (Int × Int)} (h : Paired (TieAt H) xs ps) {k : Int} (h0 : 0 <= k) (hl : k < ps.length) : ∃ c, atI xs k = some (.ref c) /\ H c = some (.tup [.int (tieN ps k).1, .int (tieN ps k).2]) := by
  obtain ⟨j, rfl⟩ := Int.eq_ofNat_of_zero_le h0
  have xl := Paired.length h
  have hj : j < xs.length := by lia
  obtain ⟨p, e1, c, e2, e3⟩ := Paired.at h (show xs[j]? = some xs[j] by simp [hj])
  refine ⟨c, atI_nat (by rw [List.getElem?_eq_getElem hj, e2]), ?_⟩
  have : tieN ps (j : Int) = p := by
    unfold tieN
    rw [Int.toNat_natCast, List.getD_eq_getElem?_getD, e1]
    rfl
  rw [this]
  exact e3
def spWP : Sp := fun vs H Q _ => ∃ (wv : V) (n : Int) (ps : List (Int × Int)), vs = [wv] /\ WebAt H wv n ps /\ ps.length <= 8 /\ ∀ t H', Same H H' -> H' t = some (.tup ((ups ps.length).map V.int)) -> Q (.ref t) H'
def Ks (m : Nat) (ks : List Int) : Prop := ∀ k ∈ ks, 0 <= k /\ k < (m : Int)
def spHeads (K : W.Frag) : Sp := fun vs H Q _ => ∃ (wv : V) (pk : Addr) (n : Int) (ps : List (Int × Int)) (ks : List Int), vs = [wv, .ref pk] /\ WebAt H wv n ps /\ 1 <= n /\ n <= 9 /\ (∀ p ∈ ps, InN n p) /\ SqT K H pk (ks.map V.int) /\ Ks ps.length ks /\
  ∀ l H', Same H H' -> H' l = some (.lst ((hdF ps (ups n) ks).map V.int)) -> Q (.ref l) H'
theorem ten_line {n : Nat} (h : n <= 10) : n < sizeLine := Nat.lt_of_le_of_lt h (by decide)
section
variable {P : Program} {w : World} {K : W.Frag} {mg : Str -> Option Value} {base : Heap}
theorem scHeads : FnScope ["web", "pick", "heads", "k", "tie", "low", "high"] ["web", "pick"] (defScope sHeads) := ⟨rfl, rfl, rfl, by decide +kernel, rfl, by decide +kernel, by decide +kernel⟩
theorem nd3 : (["head", "high", "low"] : List Str).Nodup := by decide +kernel
theorem d_heads (T : Txt K mg) (S : Src K mg "heads_of" sHeads ["web", "pick"]) : Def P w K mg base 1 "heads_of" ["web", "pick"] (spHeads K) := by
  refine S.def scHeads (fun vs H Q E h => ?_) (fun f cdv A outer s H vs Q E hr h => ?_)
  · obtain ⟨_, _, _, _, _, rfl, _⟩ := h; rfl
  · obtain ⟨wv, pk, n, ps, ks, rfl, W, n1, n9, hb, hk, hks, q⟩ := h
    obtain ⟨c, d, xs, rfl, hc, hd, ht⟩ := W.ex
    obtain ⟨m, rfl⟩ := Int.eq_ofNat_of_zero_le (show 0 <= n by lia)
    refine ⟨_, pss_cons (ps_set (i := 2) scHeads.nd rfl (Or.inl rfl) (pe_callTy (call_list_rng rfl) rfl T.list boot_list' (pa_cons (pe_callTy call_range1 rfl T.range boot_range' (pa_cons (pe_ix (ix_tupK K) (pv 0) pe_int (fun _ _ => rfl)) pa_nil)) pa_nil)))
      (pss_cons (ps_for PassesOwn.never rfl (pi_seqK K .t (pv 1)) (pg_name (i := 3) scHeads.nd rfl (Or.inl rfl))
        (pss_cons (ps_set (i := 4) scHeads.nd rfl (Or.inl rfl) (pe_ix (ix_tupK K) (pe_ix (ix_tupK K) (pv 0) pe_int (fun _ _ => rfl)) (pv 3) (fun _ _ => rfl)))
        (pss_cons (ps_set (i := 5) scHeads.nd rfl (Or.inr rfl) (pe_callB (call_min2 rfl) (by rfl) T.min boot_min' (pa_cons (pe_ix (ix_listK K) (pv 2) (pe_ix (ix_tupK K) (pv 4) pe_int (fun _ _ => rfl)) (fun _ _ => rfl)) (pa_cons (pe_ix (ix_listK K) (pv 2) (pe_ix (ix_tupK K) (pv 4) pe_int (fun _ _ => rfl)) (fun _ _ => rfl)) pa_nil))))
        (pss_cons (ps_set (i := 6) scHeads.nd rfl (Or.inr rfl) (pe_callB (call_max2 rfl) (by rfl) T.max boot_max' (pa_cons (pe_ix (ix_listK K) (pv 2) (pe_ix (ix_tupK K) (pv 4) pe_int (fun _ _ => rfl)) (fun _ _ => rfl)) (pa_cons (pe_ix (ix_listK K) (pv 2) (pe_ix (ix_tupK K) (pv 4) pe_int (fun _ _ => rfl)) (fun _ _ => rfl)) pa_nil))))
        (pss_one (ps_setComp (i := 2) scHeads.nd rfl (Or.inl rfl) (N' := ["head", "high", "low"]) (fr := [none, some 6, some 5]) (compOk_of (by rfl)) rfl (pi_seqK K .l (pv 2))
          (fun _ _ _ _ => pg_name (i := 0) nd3 rfl (Or.inl rfl) (Or.inr rfl)) (fun _ _ _ _ => pifs_nil)
          (fun _ _ _ _ => pe_ifExp (pt_cmpR op_eq (pv 0) (pv 1) (nomark _)) (pv 2) (pv 0))))))))
      (pss_one (ps_ret (pv 2)))), ?_⟩
    have i0 : atI ([.int m, .ref d] : List V) 0 = some (.int m) := atI_nat (j := 0) rfl
    have i1 : atI ([.int m, .ref d] : List V) 1 = some (.ref d) := atI_nat (j := 1) rfl
    refine ⟨_, rfl, c, _, _, _, rfl, rfl, SqT.of hc, i0, _, rfl, fun p hp => ⟨p, m, rfl, upd_same, by lia, fun l hl => ?_⟩⟩
    have s1 := (Same.new (o := HO.rng 0 m) hp).trans (Same.new (o := HO.lst (upN m)) hl)
    have hl1 : (upd (upd H p (.rng 0 m)) l (.lst (upN m))) l = some (.lst ((ups m).map V.int)) := by rw [upd_same, upN_ups]
    generalize upd (upd H p (.rng 0 m)) l (.lst (upN m)) = H1 at s1 hl1 ⊢
    refine ⟨_, rfl, pk, rfl, ⟨_, s1.tup hk⟩, for_seqK (k := .t) (K := K) (a := pk) (xs := ks.map V.int) (fun i σ H' => ∃ l u v t r, σ = [some (.ref c), some (.ref pk), some (.ref l), u, v, t, r] /\ Same H H' /\ H' l = some (.lst ((hdF ps (ups m) (ks.take i)).map V.int))) ⟨l, _, _, _, _, rfl, s1, hl1⟩ (fun i σ H' _ ⟨_, _, _, _, _, _, z, _⟩ => z.tup hk) ?_ ?_⟩
    · rintro i x σ H' hx ⟨l, u, v, t, r, rfl, sm, hl⟩
      obtain ⟨k, ek, rfl⟩ : ∃ k, ks[i]? = some k /\ V.int k = x := by
        rw [List.getElem?_map] at hx
        cases e : ks[i]? with
        | none => rw [e] at hx; simp at hx
        | some k => rw [e] at hx; simp at hx; exact ⟨k, rfl, hx⟩
      obtain ⟨k0, kl⟩ := hks k (List.mem_of_getElem? ek)
      obtain ⟨tc, et, htc⟩ := at_tie ht k0 kl
      obtain ⟨b1, b2, b3, b4⟩ := tieN_in hb k0 kl
      generalize hhs : hdF ps (ups m) (ks.take i) = hs at hl
      have hsl : hs.length = m := by rw [<- hhs, hdF_len, ups_len]; simp
      have t0 : atI ([.int (tieN ps k).1, .int (tieN ps k).2] : List V) 0 = some (.int (tieN ps k).1) := atI_nat (j := 0) rfl
      have t1 : atI ([.int (tieN ps k).1, .int (tieN ps k).2] : List V) 1 = some (.int (tieN ps k).2) := atI_nat (j := 1) rfl
      have a0 := at_int (l := hs) (i := (tieN ps k).1) b1 (by lia)
      have a1 := at_int (l := hs) (i := (tieN ps k).2) b3 (by lia)
      have htc' := sm _ _ htc
      dsimp only [gName, List.set]
      refine ⟨_, rfl, c, _, _, _, rfl, rfl, SqT.of (sm _ _ hc), i1, _, rfl, d, _, _, _, rfl, rfl, SqT.of (sm _ _ hd), et, ?_⟩
      refine ⟨_, rfl, _, rfl, tc, _, _, _, rfl, rfl, SqT.of htc', t0, l, _, _, _, rfl, rfl, SqL.of hl, a0, _, rfl, _, rfl, tc, _, _, _, rfl, rfl, SqT.of htc', t1, l, _, _, _, rfl, rfl, SqL.of hl, a1, _, _, rfl, ?_⟩
      refine ⟨_, rfl, _, rfl, tc, _, _, _, rfl, rfl, SqT.of htc', t0, l, _, _, _, rfl, rfl, SqL.of hl, a0, _, rfl, _, rfl, tc, _, _, _, rfl, rfl, SqT.of htc', t1, l, _, _, _, rfl, rfl, SqL.of hl, a1, _, _, rfl, ?_⟩
      generalize hlow : (if at0 hs (tieN ps k).2 < at0 hs (tieN ps k).1 then at0 hs (tieN ps k).2 else at0 hs (tieN ps k).1) = low
      generalize hhigh : (if at0 hs (tieN ps k).2 > at0 hs (tieN ps k).1 then at0 hs (tieN ps k).2 else at0 hs (tieN ps k).1) = high
      refine ⟨_, rfl, l, rfl, ⟨_, SqL.of hl⟩, comp_seq (k := .l) (a := l) (xs := hs.map V.int) (fun σ => ∃ v, σ = [v, some (.int high), some (.int low)]) (fun j ys H2 => H2 = H' /\ ys = (hs.take j).map fun h => V.int (if h = high then low else h)) ⟨_, rfl⟩ ⟨rfl, rfl⟩ (by rw [List.length_map]; exact ten_line (by lia)) (fun j ys H2 _ z => SqL.of (by rw [z.1]; exact hl)) ?_ ?_⟩
      · rintro j x ys σ H2 N hx ⟨u, rfl⟩ ⟨rfl, rfl⟩ hN
        obtain ⟨h0, eh, rfl⟩ : ∃ h0, hs[j]? = some h0 /\ V.int h0 = x := by
          rw [List.getElem?_map] at hx
          cases e : hs[j]? with
          | none => rw [e] at hx; simp at hx
          | some k => rw [e] at hx; simp at hx; exact ⟨k, rfl, hx⟩
        dsimp only [gName, List.set]
        refine yesT ?_
        refine ⟨_, rfl, _, rfl, rfl, _, rfl, ?_⟩
        by_cases he : h0 = high
        · rw [decide_eq_true (show V.int h0 = V.int high by rw [he])]
          refine iteT ⟨_, rfl, ?_⟩
          refine hN _ _ _ ⟨_, rfl⟩ ⟨rfl, ?_⟩ (by simp)
          rw [take_succ_of eh, List.map_append, List.map_cons, List.map_nil, if_pos he]
        · rw [decide_eq_false (show ¬ V.int h0 = V.int high from fun z => he (by injection z))]
          refine iteF ⟨_, rfl, ?_⟩
          refine hN _ _ _ ⟨_, rfl⟩ ⟨rfl, ?_⟩ (by simp)
          rw [take_succ_of eh, List.map_append, List.map_cons, List.map_nil, if_neg he]
      · rintro ys H2 ⟨rfl, rfl⟩ p2 hp2
        refine ⟨p2, _, _, _, _, rfl, sm.trans (Same.new hp2), ?_⟩
        rw [upd_same, take_succ_of ek, hdF_snoc, hhs]
        unfold stepH
        rw [hlow, hhigh, List.length_map, List.take_length, List.map_map]
        rfl
    · rintro σ H' ⟨l, u, v, t, r, rfl, sm, hl⟩
      rw [List.length_map, List.take_length] at hl
      exact ⟨_, rfl, q l H' sm hl⟩
theorem scWP : FnScope ["web"] ["web"] (defScope sWhole) := ⟨rfl, rfl, rfl, by decide +kernel, rfl, by decide +kernel, by decide +kernel⟩
theorem d_wp (T : Txt K mg) (S : Src K mg "whole_pick" sWhole ["web"]) : Def P w K mg base 1 "whole_pick" ["web"] spWP := by
  refine S.def scWP (fun vs H Q E h => ?_) (fun f cdv A outer s H vs Q E hr h => ?_)
  · obtain ⟨i, _, _, rfl, _⟩ := h; rfl
  · obtain ⟨wv, n, ps, rfl, W, hl8, q⟩ := h
    obtain ⟨c, d, xs, rfl, hc, hd, ht⟩ := W.ex
    have xl : xs.length = ps.length := Paired.length ht
    refine ⟨_, pss_one (ps_ret (pe_callTy (call_tuple_rng rfl) rfl T.tuple boot_tuple' (pa_cons (pe_callTy call_range1 rfl T.range boot_range' (pa_cons (pe_callB (call_lenK K) (by rfl) T.len PySem.boot_len (pa_cons (pe_ix (ix_tupK K) (pv 0) pe_int (fun _ _ => rfl)) pa_nil)) pa_nil)) pa_nil))), ?_⟩
    have i1 : atI ([.int n, .ref d] : List V) 1 = some (.ref d) := atI_nat (j := 1) rfl
    refine ⟨_, rfl, c, _, _, _, rfl, rfl, SqT.of hc, i1, d, xs, rfl, .inr (SqT.of hd), _, rfl, fun p hp => ⟨p, xs.length, rfl, upd_same, by omega, fun l hl => ?_⟩⟩
    refine q l _ ((Same.new hp).trans (Same.new hl)) ?_
    rw [upd_same, upN_ups, xl]
end
def spRank (K : W.Frag) : Sp := fun vs H Q _ => ∃ (wv : V) (pk : Addr) (n : Int) (ps : List (Int × Int)) (ks : List Int), vs = [wv, .ref pk] /\ WebAt H wv n ps /\ 1 <= n /\ n <= 9 /\ (∀ p ∈ ps, InN n p) /\ SqT K H pk (ks.map V.int) /\ Ks ps.length ks /\
  ∀ H', Same H H' -> Q (.int (n - (dcount (hdF ps (ups n) ks) : Int))) H'
section
variable {P : Program} {w : World} {K : W.Frag} {mg : Str -> Option Value} {base : Heap}
theorem scRank : FnScope ["web", "pick"] ["web", "pick"] (defScope sRank) := ⟨rfl, rfl, rfl, by decide +kernel, rfl, by decide +kernel, by decide +kernel⟩
theorem d_rank (T : Txt K mg) (hset : mg "set" = none) (S : Src K mg "rank_of" sRank ["web", "pick"]) (DH : Def P w K mg base 1 "heads_of" ["web", "pick"] (spHeads K)) : Def P w K mg base 2 "rank_of" ["web", "pick"] (spRank K) := by
  refine S.def scRank (fun vs H Q E h => ?_) (fun f cdv A outer s H vs Q E hr h => ?_)
  · obtain ⟨_, _, _, _, _, rfl, _⟩ := h; rfl
  · obtain ⟨wv, pk, n, ps, ks, rfl, W, n1, n9, hb, hk, hks, q⟩ := h
    obtain ⟨c, d, xs, rfl, hc, hd, ht⟩ := W.ex
    refine ⟨_, pss_one (ps_ret (pe_op op_sub (pe_ix (ix_tupK K) (pv 0) pe_int (fun _ _ => rfl)) (pe_callB call_len_setH (by rfl) T.len PySem.boot_len (pa_cons (pe_callTy (call_set_ints rfl) rfl hset boot_set' (pa_cons (pe_def DH hr rfl (pa_cons (pv 0) (pa_cons (pv 1) pa_nil))) pa_nil)) pa_nil)))), ?_⟩
    have i0 : atI ([.int n, .ref d] : List V) 0 = some (.int n) := atI_nat (j := 0) rfl
    refine ⟨_, rfl, c, _, _, _, rfl, rfl, SqT.of hc, i0, _, rfl, _, rfl, .ref c, pk, n, ps, ks, rfl, W, n1, n9, hb, hk, hks, fun l H1 s1 hl => ?_⟩
    refine ⟨l, _, rfl, SqL.of hl, by rw [hdF_len, ups_len]; lia, fun a S0 ha => ⟨a, S0, _, rfl, upd_same, _, _, rfl, rfl, ?_⟩⟩
    exact q _ (s1.trans (Same.new ha))
end
end My
namespace My
open PySem L2 PyProof.Rows
theorem at_mem {l : List Int} {i : Int} (h0 : 0 <= i) (h : i < l.length) : at0 l i ∈ l := getD_mem (by lia)
theorem at_map {l : List Int} {f : Int -> Int} {i : Int} (h0 : 0 <= i) (h : i < l.length) : at0 (l.map f) i = f (at0 l i) := getD_map (by lia)
theorem at_ups {n i : Int} (h0 : 0 <= i) (h : i < n) : at0 (ups n) i = i := by
  have : i.toNat < n.toNat := by lia
  unfold at0 ups
  simp [List.getD, this]
  lia
theorem mem_ups {n i : Int} : i ∈ ups n ↔ 0 <= i /\ i < n := by
  unfold ups
  rw [List.mem_map]
  constructor
  · rintro ⟨j, hj, rfl⟩
    have := List.mem_range.mp hj
    lia
  · rintro ⟨a, b⟩
    exact ⟨i.toNat, List.mem_range.mpr (by lia), by lia⟩
theorem ups_up (n : Int) : (ups n).Pairwise (· < ·) := by
  unfold ups
  rw [List.pairwise_map]
  exact List.pairwise_lt_range.imp fun h => by lia
theorem ups_snoc {j : Int} (h : 0 <= j) : ups (j + 1) = ups j ++ [j] := by
  unfold ups
  rw [show (j + 1).toNat = j.toNat + 1 by lia, List.range_succ, List.map_append]
  simp
  exact Int.max_eq_left h
structure GH (n : Int) (ps : List (Int × Int)) (ks hs : List Int) : Prop where
  len : (hs.length : Int) = n
  le : ∀ i, 0 <= i -> i < n -> 0 <= at0 hs i /\ at0 hs i <= i
  idem : ∀ i, 0 <= i -> i < n -> at0 hs (at0 hs i) = at0 hs i
  join : ∀ k ∈ ks, at0 hs (tieN ps k).1 = at0 hs (tieN ps k).2
  cl : ∀ F : Int -> Prop, (∀ k ∈ ks, (F (tieN ps k).1 ↔ F (tieN ps k).2)) -> ∀ i, 0 <= i -> i < n -> (F i ↔ F (at0 hs i))
theorem gh_start {n : Int} (h1 : 1 <= n) (ps : List (Int × Int)) : GH n ps [] (ups n) where
  len := by rw [ups_len]; lia
  le i a b := by rw [at_ups a b]; lia
  idem i a b := by rw [at_ups a b, at_ups a b]
  join k hk := nomatch hk
  cl F _ i a b := by rw [at_ups a b]
theorem gh_step {n : Int} {ps : List (Int × Int)} {ks hs : List Int} {k : Int} (G : GH n ps ks hs) (hall : ∀ k ∈ ks, InN n (tieN ps k)) (hp : InN n (tieN ps k)) : GH n ps (ks ++ [k]) (stepH hs (tieN ps k)) := by
  generalize hp' : tieN ps k = p at hp ⊢
  obtain ⟨a1, a2, b1, b2⟩ := id hp
  have ln := G.len
  by_cases he : at0 hs p.1 = at0 hs p.2
  · rw [stepH_same he]
    refine ⟨G.len, G.le, G.idem, fun j hj => ?_, fun F hF i h0 hi => G.cl F (fun j hj => hF j (List.mem_append_left _ hj)) i h0 hi⟩
    rcases List.mem_append.mp hj with z | z
    · exact G.join j z
    · rw [List.mem_singleton.mp z, hp']; exact he
  · obtain ⟨low, high, lh, es, fl, fh, lp, lle, dom⟩ : ∃ low high, low < high /\ stepH hs p = hs.map (fun x => if x = high then low else x) /\ at0 hs low = low /\ at0 hs high = high /\ 0 <= low /\ high < n /\ ((at0 hs p.1 = low /\ at0 hs p.2 = high) \/ (at0 hs p.1 = high /\ at0 hs p.2 = low)) := by
      have la := G.le p.1 a1 a2
      have lb := G.le p.2 b1 b2
      have ia := G.idem p.1 a1 a2
      have ib := G.idem p.2 b1 b2
      by_cases hlt : at0 hs p.2 < at0 hs p.1
      · refine ⟨at0 hs p.2, at0 hs p.1, hlt, ?_, ib, ia, lb.1, by lia, .inr ⟨rfl, rfl⟩⟩
        unfold stepH
        rw [if_neg (by lia), if_pos hlt]
      · refine ⟨at0 hs p.1, at0 hs p.2, by lia, ?_, ia, ib, la.1, by lia, .inl ⟨rfl, rfl⟩⟩
        unfold stepH
        rw [if_pos (by lia), if_neg hlt]
    rw [es]
    have am : ∀ i, 0 <= i -> i < n -> at0 (hs.map fun x => if x = high then low else x) i = if at0 hs i = high then low else at0 hs i := fun i h0 hi => at_map h0 (by lia)
    refine ⟨by rw [List.length_map]; exact ln, fun i h0 hi => ?_, fun i h0 hi => ?_, fun j hj => ?_, fun F hF i h0 hi => ?_⟩
    · rw [am i h0 hi]
      have := G.le i h0 hi
      split <;> lia
    · rw [am i h0 hi]
      have l1 := G.le i h0 hi
      by_cases c : at0 hs i = high
      · rw [if_pos c, am low lp (by lia), fl, if_neg (by lia)]
      · rw [if_neg c, am (at0 hs i) l1.1 (by lia), G.idem i h0 hi, if_neg c]
    · have inj : InN n (tieN ps j) := by
        rcases List.mem_append.mp hj with z | z
        · exact hall j z
        · rw [List.mem_singleton.mp z, hp']; exact hp
      obtain ⟨c1, c2, c3, c4⟩ := inj
      rw [am _ c1 c2, am _ c3 c4]
      rcases List.mem_append.mp hj with z | z
      · rw [G.join j z]
      · rw [List.mem_singleton.mp z, hp']
        rcases dom with ⟨d1, d2⟩ | ⟨d1, d2⟩ <;> rw [d1, d2] <;> simp
    · have old := G.cl F (fun j hj => hF j (List.mem_append_left _ hj))
      have fp : F p.1 ↔ F p.2 := by have := hF k (by simp); rw [hp'] at this; exact this
      rw [am i h0 hi, old i h0 hi]
      by_cases c : at0 hs i = high
      · rw [if_pos c, c]
        have o1 := old p.1 a1 a2
        have o2 := old p.2 b1 b2
        rcases dom with ⟨d1, d2⟩ | ⟨d1, d2⟩
        · rw [d1] at o1; rw [d2] at o2
          exact o2.symm.trans (fp.symm.trans o1)
        · rw [d1] at o1; rw [d2] at o2
          exact o1.symm.trans (fp.trans o2)
      · rw [if_neg c]
theorem gh_go {n : Int} {ps : List (Int × Int)} : ∀ (ks done hs : List Int), (∀ k ∈ done ++ ks, InN n (tieN ps k)) -> GH n ps done hs -> GH n ps (done ++ ks) (hdF ps hs ks)
  | [], done, hs, _, G => by rw [List.append_nil]; exact G
  | k :: ks, done, hs, h, G => by
    have := gh_go ks (done ++ [k]) (stepH hs (tieN ps k)) (by rw [List.append_assoc]; exact h) (gh_step G (fun j hj => h j (List.mem_append_left _ hj)) (h k (by simp)))
    rw [List.append_assoc] at this
    exact this
theorem gh_run {n : Int} {ps : List (Int × Int)} {ks : List Int} (h1 : 1 <= n) (hb : ∀ p ∈ ps, InN n p) (hk : Ks ps.length ks) : GH n ps ks (hdF ps (ups n) ks) :=
  gh_go ks [] (ups n) (fun k h => tieN_in hb (hk k h).1 (hk k h).2) (gh_start h1 ps)
def under (n : Int) (hs : List Int) (h : Int) : List Int := (ups n).filter fun i => decide (at0 hs i = h)
def hpts (n : Int) (hs : List Int) : List Int := (ups n).filter fun i => decide (at0 hs i = i)
def parts (n : Int) (hs : List Int) : List (List Int) := (hpts n hs).map (under n hs)
end My
namespace My
open PySem L2 PyProof.Rows
def cN (n : Int) (ps : List (Int × Int)) (ks : List Int) : Int := (dcount (hdF ps (ups n) ks) : Nat)
theorem stepH_norm (hs : List Int) (p : Int × Int) : stepH hs (norm p) = stepH hs p := by
  rcases norm_cases p with ⟨e1, e2⟩ | ⟨e1, e2⟩
  · unfold stepH; rw [e1, e2]
  · unfold stepH
    rw [e1, e2]
    have h1 : (if at0 hs p.1 > at0 hs p.2 then at0 hs p.1 else at0 hs p.2) = if at0 hs p.2 > at0 hs p.1 then at0 hs p.2 else at0 hs p.1 := by split <;> split <;> lia
    have h2 : (if at0 hs p.1 < at0 hs p.2 then at0 hs p.1 else at0 hs p.2) = if at0 hs p.2 < at0 hs p.1 then at0 hs p.2 else at0 hs p.1 := by split <;> split <;> lia
    rw [h1, h2]
theorem hdF_norm {ps : List (Int × Int)} : ∀ (ks hs : List Int), Ks ps.length ks -> hdF (ps.map norm) hs ks = hdF ps hs ks
  | [], _, _ => rfl
  | k :: ks, hs, h => by
    show hdF (ps.map norm) (stepH hs (tieN (ps.map norm) k)) ks = hdF ps (stepH hs (tieN ps k)) ks
    obtain ⟨k0, kl⟩ := h k List.mem_cons_self
    rw [tieN_norm k0 kl, stepH_norm, hdF_norm ks _ fun j hj => h j (List.mem_cons_of_mem _ hj)]
theorem gh_mono {n : Int} {ps : List (Int × Int)} {ks ks' hs hs' : List Int} (G : GH n ps ks hs) (G' : GH n ps ks' hs') (sub : ∀ k ∈ ks, k ∈ ks') {i j : Int} (i0 : 0 <= i) (i1 : i < n) (j0 : 0 <= j) (j1 : j < n) (e : at0 hs i = at0 hs j) : at0 hs' i = at0 hs' j := by
  have c := G.cl (fun x => at0 hs' i = at0 hs' x) fun k hk => by rw [G'.join k (sub k hk)]
  have c1 := c i i0 i1
  rw [e] at c1
  exact (c j j0 j1).mpr (c1.mp rfl)
theorem gh_le {n : Int} {ps : List (Int × Int)} {ks ks' hs hs' : List Int} (G : GH n ps ks hs) (G' : GH n ps ks' hs') (sub : ∀ k ∈ ks, k ∈ ks') {i : Int} (i0 : 0 <= i) (i1 : i < n) : at0 hs' i <= at0 hs i := by
  have l := G.le i i0 i1
  have m := gh_mono G G' sub l.1 (by lia) i0 i1 (G.idem i i0 i1)
  have l2 := G'.le (at0 hs i) l.1 (by lia)
  lia
theorem gh_same {n : Int} {ps : List (Int × Int)} {ks ks' hs hs' : List Int} (G : GH n ps ks hs) (G' : GH n ps ks' hs') (h : ∀ k, k ∈ ks ↔ k ∈ ks') : hs = hs' := by
  have l1 := G.len
  have l2 := G'.len
  apply List.ext_getElem (by lia)
  intro i h1 h2
  have a := gh_le G G' (fun k hk => (h k).mp hk) (i := i) (by lia) (by lia)
  have b := gh_le G' G (fun k hk => (h k).mpr hk) (i := i) (by lia) (by lia)
  have e1 : at0 hs i = hs[i] := by unfold at0; rw [Int.toNat_natCast]; simp [List.getD, h1]
  have e2 : at0 hs' i = hs'[i] := by unfold at0; rw [Int.toNat_natCast]; simp [List.getD, h2]
  lia
section
variable {n : Int} {ps : List (Int × Int)}
theorem c_same (n1 : 1 <= n) (hb : ∀ p ∈ ps, InN n p) {ks ks' : List Int} (h1 : Ks ps.length ks) (h2 : Ks ps.length ks') (h : ∀ k, k ∈ ks ↔ k ∈ ks') : cN n ps ks = cN n ps ks' := by
  unfold cN
  rw [gh_same (gh_run n1 hb h1) (gh_run n1 hb h2) h]
theorem c_snoc (n1 : 1 <= n) (hb : ∀ p ∈ ps, InN n p) {ks : List Int} {k : Int} (h1 : Ks ps.length ks) (k0 : 0 <= k) (kl : k < ps.length) :
    cN n ps (ks ++ [k]) = cN n ps ks - if at0 (hdF ps (ups n) ks) (tieN ps k).1 = at0 (hdF ps (ups n) ks) (tieN ps k).2 then 0 else 1 := by
  have G := gh_run n1 hb h1
  obtain ⟨a1, a2, b1, b2⟩ := tieN_in hb k0 kl
  unfold cN
  rw [hdF_snoc]
  generalize hdF ps (ups n) ks = hs at G ⊢
  have ln := G.len
  by_cases e : at0 hs (tieN ps k).1 = at0 hs (tieN ps k).2
  · rw [stepH_same e, if_pos e]; lia
  · obtain ⟨u, v, huv, e1, hu⟩ := stepH_ne e
    have m1 : at0 hs (tieN ps k).1 ∈ hs := at_mem a1 (by lia)
    have m2 : at0 hs (tieN ps k).2 ∈ hs := at_mem b1 (by lia)
    have mu : u ∈ hs := by rcases hu with ⟨z, _⟩ | ⟨z, _⟩ <;> rw [z] <;> assumption
    have mv : v ∈ hs := by rcases hu with ⟨_, z⟩ | ⟨_, z⟩ <;> rw [z] <;> assumption
    have := dcount_merge huv mu mv
    rw [e1, if_neg e]
    lia
theorem ks_app {m : Nat} {X Y : List Int} (h1 : Ks m X) (h2 : Ks m Y) : Ks m (X ++ Y) := fun k hk => by
  rcases List.mem_append.mp hk with z | z
  · exact h1 k z
  · exact h2 k z
theorem c_nil (n1 : 1 <= n) (n9 : n <= 9) : cN n ps [] = n := ups_dc n1 n9
end
def mvP (n t : Int) (p : Int × Int) : Int × Int := ((p.1 + t) % n, (p.2 + t) % n)
def mv (n t : Int) (ps : List (Int × Int)) : List (Int × Int) := ps.reverse.map (mvP n t)
def tn (ps : List (Int × Int)) (k : Int) : Int := (ps.length : Int) - 1 - k
def bitI (b k : Int) : Bool := decide (Builtin.bitAnd (b / 2 ^ k.toNat) 1 = 1)
def pkB (b : Int) (m : Nat) : List Int := (ups m).filter (bitI b)
theorem mem_pkB {b k : Int} {m : Nat} : k ∈ pkB b m ↔ (0 <= k /\ k < m) /\ bitI b k = true := by unfold pkB; rw [List.mem_filter, mem_ups]
theorem pkB_ks (b : Int) (m : Nat) : Ks m (pkB b m) := fun k h => (mem_pkB.mp h).1
end My
namespace My
open PySem L2 PyProof.Rows
def tau (u v x : Int) : Int := if x = u then v else if x = v then u else x
theorem tau_tau (u v x : Int) : tau u v (tau u v x) = x := by
  unfold tau
  split <;> (try split) <;> (try split) <;> lia
theorem tau_ne {u v x : Int} (h1 : x ≠ u) (h2 : x ≠ v) : tau u v x = x := by unfold tau; rw [if_neg h1, if_neg h2]
theorem tau_u (u v : Int) : tau u v u = v := by unfold tau; rw [if_pos rfl]
theorem tau_v (u v : Int) : tau u v v = u := by unfold tau; split <;> (try split) <;> lia
theorem tau_in {u v n x : Int} (u0 : 0 <= u /\ u < n) (v0 : 0 <= v /\ v < n) (x0 : 0 <= x /\ x < n) : 0 <= tau u v x /\ tau u v x < n := by
  unfold tau
  split <;> (try split) <;> lia
structure Tw (n u v : Int) (P : Int -> Prop) (ps qs : List (Int × Int)) : Prop where
  len : qs.length = ps.length
  hb : ∀ p ∈ ps, InN n p
  hb' : ∀ p ∈ qs, InN n p
  uu : 0 <= u /\ u < n
  vv : 0 <= v /\ v < n
  inn : ∀ k : Int, 0 <= k -> k < ps.length -> P k -> ((tieN qs k).1 = tau u v (tieN ps k).1 /\ (tieN qs k).2 = tau u v (tieN ps k).2) \/ ((tieN qs k).1 = tau u v (tieN ps k).2 /\ (tieN qs k).2 = tau u v (tieN ps k).1)
  out : ∀ k : Int, 0 <= k -> k < ps.length -> ¬ P k -> tieN qs k = tieN ps k
  apart : ∀ k j : Int, 0 <= k -> k < ps.length -> 0 <= j -> j < ps.length -> P k -> ¬ P j -> ∀ x, (x = (tieN ps k).1 \/ x = (tieN ps k).2) -> (x = (tieN ps j).1 \/ x = (tieN ps j).2) -> x = u \/ x = v
section
variable {n u v : Int} {P : Int -> Prop} {ps qs : List (Int × Int)}
theorem Tw.symm (T : Tw n u v P ps qs) : Tw n u v P qs ps where
  len := T.len.symm
  hb := T.hb'
  hb' := T.hb
  uu := T.uu
  vv := T.vv
  inn k k0 kl hk := by
    rw [T.len] at kl
    rcases T.inn k k0 kl hk with ⟨a, b⟩ | ⟨a, b⟩
    · left; rw [a, b, tau_tau, tau_tau]; exact ⟨rfl, rfl⟩
    · right; rw [a, b, tau_tau, tau_tau]; exact ⟨rfl, rfl⟩
  out k k0 kl hk := (T.out k k0 (by rw [T.len] at kl; exact kl) hk).symm
  apart k j k0 kl j0 jl hk hj x xk xj := by
    rw [T.len] at kl jl
    rw [T.out j j0 jl hj] at xj
    refine Classical.byContradiction fun z => ?_
    have x1 : x ≠ u := fun y => z (.inl y)
    have x2 : x ≠ v := fun y => z (.inr y)
    have tx : tau u v x = x := tau_ne x1 x2
    refine z (T.apart k j k0 kl j0 jl hk hj x ?_ xj)
    rcases T.inn k k0 kl hk with ⟨a, b⟩ | ⟨a, b⟩
    · rcases xk with e | e
      · left; rw [a] at e; rw [<- tx, e, tau_tau]
      · right; rw [b] at e; rw [<- tx, e, tau_tau]
    · rcases xk with e | e
      · right; rw [a] at e; rw [<- tx, e, tau_tau]
      · left; rw [b] at e; rw [<- tx, e, tau_tau]
theorem Tw.conn1 (T : Tw n u v P ps qs) {A h h' : List Int} (hA : Ks ps.length A) (hP : ∀ k ∈ A, P k) (G : GH n ps A h) (G' : GH n qs A h') {i j : Int} (i0 : 0 <= i) (i1 : i < n) (j0 : 0 <= j) (j1 : j < n) (e : at0 h i = at0 h j) : at0 h' (tau u v i) = at0 h' (tau u v j) := by
  have c := G.cl (fun x => at0 h' (tau u v i) = at0 h' (tau u v x)) fun k hk => by
    have := G'.join k hk
    rcases T.inn k (hA k hk).1 (hA k hk).2 (hP k hk) with ⟨a, b⟩ | ⟨a, b⟩
    · rw [a, b] at this; rw [this]
    · rw [a, b] at this; rw [this]
  have c1 := c i i0 i1
  rw [e] at c1
  exact (c j j0 j1).mpr (c1.mp rfl)
def OutP (u v : Int) (P : Int -> Prop) (ps : List (Int × Int)) (x : Int) : Prop := x = u \/ x = v \/ ∀ k, 0 <= k -> k < (ps.length : Int) -> P k -> x ≠ (tieN ps k).1 /\ x ≠ (tieN ps k).2
theorem Tw.outP (T : Tw n u v P ps qs) {j : Int} (j0 : 0 <= j) (jl : j < ps.length) (hj : ¬ P j) {x : Int} (hx : x = (tieN ps j).1 \/ x = (tieN ps j).2) : OutP u v P ps x := by
  refine Classical.byContradiction fun z => ?_
  have x1 : x ≠ u := fun y => z (.inl y)
  have x2 : x ≠ v := fun y => z (.inr (.inl y))
  refine z (.inr (.inr fun k k0 kl hk => ⟨fun y => ?_, fun y => ?_⟩))
  · rcases T.apart k j k0 kl j0 jl hk hj x (.inl y) hx with e | e
    · exact x1 e
    · exact x2 e
  · rcases T.apart k j k0 kl j0 jl hk hj x (.inr y) hx with e | e
    · exact x1 e
    · exact x2 e
theorem outP_uv {k : Int} (k0 : 0 <= k) (kl : k < (ps.length : Int)) (hk : P k) {x : Int} (hx : x = (tieN ps k).1 \/ x = (tieN ps k).2) (o : OutP u v P ps x) : x = u \/ x = v := by
  rcases o with e | e | h
  · exact .inl e
  · exact .inr e
  · have := h k k0 kl hk
    rcases hx with e | e
    · exact absurd e this.1
    · exact absurd e this.2
theorem Tw.conn2 (T : Tw n u v P ps qs) (n1 : 1 <= n) {A D h h' : List Int} (hA : Ks ps.length A) (hP : ∀ k ∈ A, P k) (hD : Ks ps.length D) (hN : ∀ k ∈ D, ¬ P k) (G : GH n ps (A ++ D) h) (G' : GH n qs (A ++ D) h') {a b : Int} (a0 : 0 <= a) (a1 : a < n) (b0 : 0 <= b) (b1 : b < n) (oa : OutP u v P ps a) (ob : OutP u v P ps b) (e : at0 h a = at0 h b) : at0 h' a = at0 h' b := by
  have hA' : Ks qs.length A := by rw [T.len]; exact hA
  have g := gh_run n1 T.hb hA
  have g' := gh_run n1 T.hb' hA'
  generalize hdF ps (ups n) A = m at g
  generalize hdF qs (ups n) A = m' at g'
  have uv : at0 m u = at0 m v -> at0 h' u = at0 h' v := fun z => by
    have := T.conn1 hA hP g g' T.uu.1 T.uu.2 T.vv.1 T.vv.2 z
    rw [tau_u, tau_v] at this
    exact (gh_mono g' G' (fun k hk => List.mem_append_left _ hk) T.vv.1 T.vv.2 T.uu.1 T.uu.2 this).symm
  let F : Int -> Prop := fun x => (OutP u v P ps x /\ at0 h' a = at0 h' x) \/ (¬ OutP u v P ps x /\ ((at0 m x = at0 m u /\ at0 h' a = at0 h' u) \/ (at0 m x = at0 m v /\ at0 h' a = at0 h' v)))
  have Fo : ∀ x, OutP u v P ps x -> (F x ↔ at0 h' a = at0 h' x) := fun x o => ⟨fun z => by
    rcases z with z | z
    · exact z.2
    · exact absurd o z.1, fun z => .inl ⟨o, z⟩⟩
  have Fi : ∀ x, ¬ OutP u v P ps x -> (F x ↔ ((at0 m x = at0 m u /\ at0 h' a = at0 h' u) \/ (at0 m x = at0 m v /\ at0 h' a = at0 h' v))) := fun x o => ⟨fun z => by
    rcases z with z | z
    · exact absurd z.1 o
    · exact z.2, fun z => .inr ⟨o, z⟩⟩
  have Fu : F u ↔ at0 h' a = at0 h' u := Fo u (.inl rfl)
  have Fv : F v ↔ at0 h' a = at0 h' v := Fo v (.inr (.inl rfl))
  have one : ∀ x y, ¬ OutP u v P ps x -> (y = u \/ y = v) -> at0 m x = at0 m y -> (F x ↔ F y) := fun x y ox hy ex => by
    rw [Fi x ox]
    rcases hy with rfl | rfl
    · rw [Fu]
      constructor
      · rintro (z | ⟨z1, z2⟩)
        · exact z.2
        · rw [z2, uv (ex.symm.trans z1)]
      · exact fun z => .inl ⟨ex, z⟩
    · rw [Fv]
      constructor
      · rintro (⟨z1, z2⟩ | z)
        · rw [z2, uv (z1.symm.trans ex)]
        · exact z.2
      · exact fun z => .inr ⟨ex, z⟩
  have c := G.cl F fun k hk => by
    rcases List.mem_append.mp hk with z | z
    · obtain ⟨k0, kl⟩ := hA k z
      have pk := hP k z
      have jn := g.join k z
      by_cases o1 : OutP u v P ps (tieN ps k).1
      · have e1 := outP_uv k0 kl pk (.inl rfl) o1
        by_cases o2 : OutP u v P ps (tieN ps k).2
        · have e2 := outP_uv k0 kl pk (.inr rfl) o2
          rw [Fo _ o1, Fo _ o2]
          have : at0 h' (tieN ps k).1 = at0 h' (tieN ps k).2 := by
            rcases e1 with e1 | e1 <;> rcases e2 with e2 | e2
            · rw [e1, e2]
            · rw [e1, e2] at jn ⊢; exact uv jn
            · rw [e1, e2] at jn ⊢; exact (uv jn.symm).symm
            · rw [e1, e2]
          rw [this]
        · exact (one _ _ o2 e1 jn.symm).symm
      · by_cases o2 : OutP u v P ps (tieN ps k).2
        · have e2 := outP_uv k0 kl pk (.inr rfl) o2
          exact one _ _ o1 e2 jn
        · rw [Fi _ o1, Fi _ o2, jn]
    · obtain ⟨k0, kl⟩ := hD k z
      have nk := hN k z
      have o1 := T.outP k0 kl nk (.inl rfl)
      have o2 := T.outP k0 kl nk (.inr rfl)
      rw [Fo _ o1, Fo _ o2]
      have := G'.join k hk
      rw [T.out k k0 kl nk] at this
      rw [this]
  have ca := c a a0 a1
  have cb := c b b0 b1
  rw [<- e] at cb
  have fa : F a := (Fo a oa).mpr rfl
  exact (Fo b ob).mp (cb.mpr (ca.mp fa))
theorem Tw.c1 (T : Tw n u v P ps qs) (n1 : 1 <= n) (n9 : n <= 9) : ∀ (ks done : List Int), Ks ps.length ks -> Ks ps.length done -> (∀ k ∈ done ++ ks, P k) -> cN n ps done = cN n qs done -> cN n ps (done ++ ks) = cN n qs (done ++ ks)
  | [], done, _, _, _, e => by rw [List.append_nil]; exact e
  | k :: ks, done, hk, hd, hP, e => by
    obtain ⟨k0, kl⟩ := hk k List.mem_cons_self
    have hk1 : Ks ps.length [k] := fun j hj => by rw [List.mem_singleton.mp hj]; exact ⟨k0, kl⟩
    have hd' : Ks qs.length done := by rw [T.len]; exact hd
    have pk : P k := hP k (by simp)
    have pd : ∀ j ∈ done, P j := fun j hj => hP j (List.mem_append_left _ hj)
    have := Tw.c1 T n1 n9 ks (done ++ [k]) (fun j hj => hk j (List.mem_cons_of_mem _ hj)) (ks_app hd hk1) (by rw [List.append_assoc]; exact hP) (by
      rw [c_snoc n1 T.hb hd k0 kl, c_snoc n1 T.hb' hd' k0 (by rw [T.len]; exact kl), e]
      congr 1
      have G := gh_run n1 T.hb hd
      have G' := gh_run n1 T.hb' hd'
      obtain ⟨a1, a2, b1, b2⟩ := tieN_in T.hb k0 kl
      obtain ⟨c1, c2, d1, d2⟩ := tieN_in T.hb' k0 (by rw [T.len]; exact kl)
      have m1 : at0 (hdF ps (ups n) done) (tieN ps k).1 = at0 (hdF ps (ups n) done) (tieN ps k).2 -> at0 (hdF qs (ups n) done) (tieN qs k).1 = at0 (hdF qs (ups n) done) (tieN qs k).2 := fun z => by
        have := T.conn1 hd pd G G' a1 a2 b1 b2 z
        rcases T.inn k k0 kl pk with ⟨x, y⟩ | ⟨x, y⟩
        · rw [x, y]; exact this
        · rw [x, y]; exact this.symm
      have m2 : at0 (hdF qs (ups n) done) (tieN qs k).1 = at0 (hdF qs (ups n) done) (tieN qs k).2 -> at0 (hdF ps (ups n) done) (tieN ps k).1 = at0 (hdF ps (ups n) done) (tieN ps k).2 := fun z => by
        have := T.symm.conn1 hd' pd G' G c1 c2 d1 d2 z
        rcases T.inn k k0 kl pk with ⟨x, y⟩ | ⟨x, y⟩
        · rw [x, y, tau_tau, tau_tau] at this; exact this
        · rw [x, y, tau_tau, tau_tau] at this; exact this.symm
      by_cases z : at0 (hdF ps (ups n) done) (tieN ps k).1 = at0 (hdF ps (ups n) done) (tieN ps k).2
      · rw [if_pos z, if_pos (m1 z)]
      · rw [if_neg z, if_neg fun y => z (m2 y)])
    rw [List.append_assoc] at this
    exact this
theorem outP_sw (T : Tw n u v P ps qs) {x : Int} (o : OutP u v P ps x) : OutP u v P qs x := by
  refine Classical.byContradiction fun z => ?_
  have x1 : x ≠ u := fun y => z (.inl y)
  have x2 : x ≠ v := fun y => z (.inr (.inl y))
  have tx : tau u v x = x := tau_ne x1 x2
  rcases o with e | e | h
  · exact x1 e
  · exact x2 e
  · refine z (.inr (.inr fun k k0 kl hk => ?_))
    rw [T.len] at kl
    obtain ⟨h1, h2⟩ := h k k0 kl hk
    rcases T.inn k k0 kl hk with ⟨a, b⟩ | ⟨a, b⟩
    · exact ⟨fun y => h1 (by rw [a] at y; rw [<- tx, y, tau_tau]), fun y => h2 (by rw [b] at y; rw [<- tx, y, tau_tau])⟩
    · exact ⟨fun y => h2 (by rw [a] at y; rw [<- tx, y, tau_tau]), fun y => h1 (by rw [b] at y; rw [<- tx, y, tau_tau])⟩
theorem Tw.c2 (T : Tw n u v P ps qs) (n1 : 1 <= n) (n9 : n <= 9) {A : List Int} (hA : Ks ps.length A) (hP : ∀ k ∈ A, P k) : ∀ (ks D : List Int), Ks ps.length ks -> Ks ps.length D -> (∀ k ∈ D ++ ks, ¬ P k) -> cN n ps (A ++ D) = cN n qs (A ++ D) -> cN n ps (A ++ (D ++ ks)) = cN n qs (A ++ (D ++ ks))
  | [], D, _, _, _, e => by rw [List.append_nil]; exact e
  | k :: ks, D, hk, hd, hN, e => by
    obtain ⟨k0, kl⟩ := hk k List.mem_cons_self
    have hk1 : Ks ps.length [k] := fun j hj => by rw [List.mem_singleton.mp hj]; exact ⟨k0, kl⟩
    have hAd := ks_app hA hd
    have hAd' : Ks qs.length (A ++ D) := by rw [T.len]; exact hAd
    have nk : ¬ P k := hN k (by simp)
    have nd : ∀ j ∈ D, ¬ P j := fun j hj => hN j (List.mem_append_left _ hj)
    have := Tw.c2 T n1 n9 hA hP ks (D ++ [k]) (fun j hj => hk j (List.mem_cons_of_mem _ hj)) (ks_app hd hk1) (by rw [List.append_assoc]; exact hN) (by
      rw [<- List.append_assoc, c_snoc n1 T.hb hAd k0 kl, c_snoc n1 T.hb' hAd' k0 (by rw [T.len]; exact kl), e, T.out k k0 kl nk]
      congr 1
      have G := gh_run n1 T.hb hAd
      have G' := gh_run n1 T.hb' hAd'
      obtain ⟨a1, a2, b1, b2⟩ := tieN_in T.hb k0 kl
      have o1 := T.outP k0 kl nk (.inl rfl)
      have o2 := T.outP k0 kl nk (.inr rfl)
      have m1 := T.conn2 n1 hA hP hd nd G G' a1 a2 b1 b2 o1 o2
      have m2 := T.symm.conn2 n1 (by rw [T.len]; exact hA) hP (by rw [T.len]; exact hd) nd G' G a1 a2 b1 b2 (outP_sw T o1) (outP_sw T o2)
      by_cases z : at0 (hdF ps (ups n) (A ++ D)) (tieN ps k).1 = at0 (hdF ps (ups n) (A ++ D)) (tieN ps k).2
      · rw [if_pos z, if_pos (m1 z)]
      · rw [if_neg z, if_neg fun y => z (m2 y)])
    rw [List.append_assoc] at this
    exact this
theorem Tw.c (T : Tw n u v P ps qs) (n1 : 1 <= n) (n9 : n <= 9) {A : List Int} (hA : Ks ps.length A) : cN n ps A = cN n qs A := by
  classical
  have sub : ∀ f : Int -> Bool, Ks ps.length (A.filter f) := fun f k hk => hA k (List.mem_filter.mp hk).1
  have h1 := Tw.c1 T n1 n9 (A.filter fun k => decide (P k)) [] (sub _) (fun _ z => nomatch z) (fun k hk => of_decide_eq_true (List.mem_filter.mp hk).2) (by rw [c_nil n1 n9, c_nil n1 n9])
  rw [List.nil_append] at h1
  have h2 := Tw.c2 T n1 n9 (sub fun k => decide (P k)) (fun k hk => of_decide_eq_true (List.mem_filter.mp hk).2) (A.filter fun k => !decide (P k)) [] (sub _) (fun _ z => nomatch z) (fun k hk => by
    have := (List.mem_filter.mp hk).2
    rw [Bool.not_eq_true'] at this
    exact of_decide_eq_false this) (by rw [List.append_nil]; exact h1)
  rw [List.nil_append] at h2
  have sm : ∀ k, k ∈ A ↔ k ∈ (A.filter fun k => decide (P k)) ++ A.filter fun k => !decide (P k) := fun k => by
    rw [List.mem_append, List.mem_filter, List.mem_filter]
    cases decide (P k) <;> simp
  have hB := ks_app (sub fun k => decide (P k)) (sub fun k => !decide (P k))
  rw [c_same n1 T.hb hA hB sm, h2, <- c_same n1 T.hb' (by rw [T.len]; exact hA) (by rw [T.len]; exact hB) sm]
end
end My
namespace My
open PySem L2
theorem ups_get {n : Nat} {i : Nat} (h : i < n) : (ups n)[i]? = some (i : Int) := by
  unfold ups
  rw [Int.toNat_natCast]
  simp [h]
def WebOk (n : Int) (ps : List (Int × Int)) : Prop := (1 <= n /\ n <= 9) /\ (∀ p ∈ ps, InN n p) /\ ps.length <= 8
def NrmP (ps : List (Int × Int)) : Prop := ∀ p ∈ ps, p.1 <= p.2
theorem line100 {n : Nat} (h : n <= 100) : n < sizeLine := Nat.lt_of_le_of_lt h (by decide)
theorem put_fresh {H H2 : Hp} {g : Addr} {o : HO} (s : Same H H2) (h : H g = none) : Same H (upd H2 g o) := fun b u e => by rw [upd_ne (ne_of_none e h)]; exact s b u e
theorem was_none {H H' : Hp} {l : Addr} (s : Same H H') (h : H' l = none) : H l = none := by
  cases e : H l with
  | none => rfl
  | some o => exact absurd (s _ _ e) (by rw [h]; intro z; cases z)
theorem get_int' {ks : List Int} {i : Nat} {x : V} (hx : (ks.map V.int)[i]? = some x) : ∃ k, ks[i]? = some k /\ V.int k = x := by
  rw [List.getElem?_map] at hx
  cases e : ks[i]? with
  | none => rw [e] at hx; simp at hx
  | some k => rw [e] at hx; simp at hx; exact ⟨k, rfl, hx⟩
theorem ties_put {H : Hp} {l : Addr} {ys zs : List V} {xs : List V} {ps : List (Int × Int)} (h : Paired (TieAt H) xs ps) (hl : H l = some (.lst ys)) : Paired (TieAt (upd H l (.lst zs))) xs ps := L2.Paired.mapP h fun _ _ ⟨a, h1, h2⟩ => ⟨a, h1, by
  rw [upd_ne (ne_of h2 hl (fun z => nomatch z))]
  exact h2⟩
theorem ite_st {b : Bool} {p : Prop} {F : St -> Hp -> Prop} {σ : St} {H : Hp} (S : St -> Hp -> Prop) (key : ∀ σ H, S σ H -> F σ H) (h2 : S σ H) (hp : (∀ σ H, S σ H -> F σ H) -> p) : if b = true then p else F σ H := by
  cases b with
  | true => exact hp key
  | false => exact key _ _ h2
theorem and_join {b : Bool} {p q : Prop} {F : St -> Hp -> Prop} {σ : St} {H : Hp} (S : St -> Hp -> Prop) (key : ∀ σ H, S σ H -> F σ H) (h0 : S σ H) (hp : (∀ σ H, S σ H -> F σ H) -> p) : if b = true then p else (if false = true then q else F σ H) := by
  cases b with
  | true => exact hp key
  | false => exact key _ _ h0
def rIsi (K : W.Frag) : List V -> Hp -> VK -> Prop := fun xs H Q => ∃ x c t u b, xs = [x, c] /\ RelV c u /\ TyOf K H x t /\ PySem.W.kitOne K t u = some b /\ Q (.bl b) H
theorem kp_int (K : W.Frag) : PySem.W.kitOne K (.type "int") (.type "int") = some true := by first | rfl | decide +kernel
theorem kp_intb (K : W.Frag) : PySem.W.kitOne K (.type "int") (.type "bool") = some false := by first | rfl | decide +kernel
theorem kp_tup (K : W.Frag) : PySem.W.kitOne K (.type "tuple") (.type "tuple") = some true := by rfl
def rIxK (kd : Kd) (K : W.Frag) : R2 := fun x y H Q => ∃ p xs i v, x = .ref p /\ y = .int i /\ SqK kd K H p xs /\ atI xs i = some v /\ Q v H
theorem ix_kd {X : Cx} (kd : Kd) : IxR X (rIxK kd X.K) := by
  cases kd with
  | l => exact L2.ix_list
  | t => exact L2.ix_tup
theorem norm_min (p : Int × Int) : (if p.2 < p.1 then p.2 else p.1) = (norm p).1 /\ (if p.2 > p.1 then p.2 else p.1) = (norm p).2 := by
  unfold norm
  by_cases h : p.1 <= p.2
  · simp only [h, if_true]
    constructor <;> (split <;> lia)
  · simp only [h, if_false]
    constructor <;> (split <;> lia)
theorem norm_id {p : Int × Int} (h : p.1 <= p.2) : norm p = p := by unfold norm; rw [if_pos h]
theorem norm_le (p : Int × Int) : (norm p).1 <= (norm p).2 := by unfold norm; split <;> simp only <;> lia
theorem same_tie {K : W.Frag} {H : Hp} {a b : Addr} {x y : Int} (h1 : H a = some (.tup [.int x, .int y])) (h2 : H b = some (.tup [.int x, .int y])) : SameD K H 1 (.ref a) (.ref b) := by
  refine .tup (SqT.of h1) (SqT.of h2) rfl fun i u v e1 e2 => ?_
  rw [e1] at e2
  cases e2
  match i with
  | 0 => simp at e1; rw [<- e1]; exact .flat rfl
  | 1 => simp at e1; rw [<- e1]; exact .flat rfl
  | j + 2 => simp at e1
theorem same_web {K : W.Frag} {H : Hp} {v u : V} {n : Int} {ps : List (Int × Int)} (h1 : WebAt H v n ps) (h2 : WebAt H u n ps) {Q : VK} {out : Bool} (q : Q (.bl out) H) : rSame K out v u H Q := by
  obtain ⟨c, d, xs, rfl, c1, d1, t1⟩ := h1.ex
  obtain ⟨c', d', xs', rfl, c2, d2, t2⟩ := h2.ex
  have l1 := Paired.length t1
  have l2 := Paired.length t2
  refine ⟨c, c', _, _, 2, rfl, rfl, .inl ⟨SqT.of c1, SqT.of c2⟩, rfl, by decide, fun i x y e1 e2 => ?_, q⟩
  match i with
  | 0 => simp at e1 e2; rw [<- e1, <- e2]; exact .flat rfl
  | 1 =>
    simp at e1 e2
    rw [<- e1, <- e2]
    refine .tup (SqT.of d1) (SqT.of d2) (by lia) fun j x y f1 f2 => ?_
    obtain ⟨p1, g1, a1, rfl, b1⟩ := Paired.at t1 f1
    obtain ⟨p2, g2, a2, rfl, b2⟩ := Paired.at t2 f2
    rw [g1] at g2
    cases g2
    exact same_tie b1 b2
  | j + 2 => simp at e1
theorem dec_int (a b : Int) : decide (V.int a = V.int b) = decide (a = b) := by
  rw [decide_eq_decide]
  exact ⟨fun z => by injection z, fun z => by rw [z]⟩
def spWholeI : Sp := fun vs H Q _ => ∃ i : Int, vs = [.int i] /\ Q (.bl true) H
def spWithI : Sp := fun vs H Q _ => ∃ x a b : Int, vs = [.int x, .int a, .int b] /\ a <= x /\ x <= b /\ Q (.bl true) H
def spNoPt : Sp := fun vs H Q _ => ∃ (wv : V) (n : Int) (ps : List (Int × Int)) (p : Int), vs = [wv, .int p] /\ WebAt H wv n ps /\ 0 <= p /\ p < n /\ Q .non H
section
variable {P : Program} {w : World} {K : W.Frag} {mg : Str -> Option Value} {base : Heap}
theorem scIsWhole : FnScope ["thing"] ["thing"] (defScope sIsWhole) := ⟨rfl, rfl, rfl, by decide +kernel, rfl, by decide +kernel, by decide +kernel⟩
theorem d_wholeI (T : Txt K mg) (S : Src K mg "is_whole" sIsWhole ["thing"]) : Def P w K mg base 1 "is_whole" ["thing"] spWholeI := by
  refine S.def scIsWhole (fun vs H Q E h => ?_) (fun f cdv A outer s H vs Q E hr h => ?_)
  · obtain ⟨x, rfl, _⟩ := h; rfl
  · obtain ⟨i, rfl, q⟩ := h
    refine ⟨_, pss_one (ps_ret (pe_and (pe_callB (call_isiK K) (by rfl) T.isi boot_isi (pa_cons (pv 0) (pa_cons (pe_bltn (v := .ty "int") rfl T.int boot_int' rfl) pa_nil)))
      (pe_one (pe_not (pe_callB (call_isiK K) (by rfl) T.isi boot_isi (pa_cons (pv 0) (pa_cons (pe_bltn (v := .ty "bool") rfl T.bool boot_bool' rfl) pa_nil))))))), ?_⟩
    exact ⟨_, rfl, _, _, _, _, _, rfl, rfl, .int _, kp_int K, _, rfl, iteT ⟨_, rfl, _, _, _, _, _, rfl, rfl, .int _, kp_intb K, _, rfl, q⟩⟩
theorem scWithin : FnScope ["thing", "least", "greatest"] ["thing", "least", "greatest"] (defScope sWithin) := ⟨rfl, rfl, rfl, by decide +kernel, rfl, by decide +kernel, by decide +kernel⟩
theorem d_withI (S : Src K mg "is_whole_within" sWithin ["thing", "least", "greatest"]) (D : Def P w K mg base 1 "is_whole" ["thing"] spWholeI) : Def P w K mg base 2 "is_whole_within" ["thing", "least", "greatest"] spWithI := by
  refine S.def scWithin (fun vs H Q E h => ?_) (fun f cdv A outer s H vs Q E hr h => ?_)
  · obtain ⟨x, lo, hi, rfl, _⟩ := h; rfl
  · obtain ⟨x, lo, hi, rfl, h1, h2, q⟩ := h
    refine ⟨_, pss_one (ps_ret (pe_and (pe_def D hr rfl (pa_cons (pv 0) pa_nil)) (pe_one (pe_chain op_le op_le (pv 1) (pv 0) (pv 2))))), ?_⟩
    refine ⟨_, rfl, x, rfl, _, rfl, iteT ⟨_, rfl, _, rfl, _, _, rfl, rfl, _, rfl, ?_⟩⟩
    rw [decide_eq_true h1]
    refine iteT ⟨_, rfl, _, _, rfl, rfl, ?_⟩
    dsimp only
    rw [decide_eq_true h2]
    exact q
theorem scNoPt : FnScope ["web", "point"] ["web", "point"] (defScope sNoPt) := ⟨rfl, rfl, rfl, by decide +kernel, rfl, by decide +kernel, by decide +kernel⟩
theorem d_nopt (S : Src K mg "refuse_no_point_of" sNoPt ["web", "point"]) (D : Def P w K mg base 2 "is_whole_within" ["thing", "least", "greatest"] spWithI) : Def P w K mg base 3 "refuse_no_point_of" ["web", "point"] spNoPt := by
  refine S.def scNoPt (fun vs H Q E h => ?_) (fun f cdv A outer s H vs Q E hr h => ?_)
  · obtain ⟨_, _, _, _, rfl, _⟩ := h; rfl
  · obtain ⟨wv, n, ps, p, rfl, W, p0, pn, q⟩ := h
    obtain ⟨c, d, xs, rfl, hc, hd, ht⟩ := W.ex
    refine ⟨_, pss_one (ps_if (pt_not (pt_val (pe_def D hr rfl (pa_cons (pv 1) (pa_cons pe_int (pa_cons (pe_op op_sub (pe_ix (ix_tupK K) (pv 0) pe_int (fun _ _ => rfl)) pe_int) pa_nil)))))) pss_never pss_nil), ?_⟩
    have i0 : atI ([.int n, .ref d] : List V) 0 = some (.int n) := atI_nat (j := 0) rfl
    exact ⟨_, rfl, _, rfl, c, _, _, _, rfl, rfl, SqT.of hc, i0, _, _, rfl, rfl, p, 0, n - 1, rfl, p0, by lia, _, rfl, iteF q⟩
end
def renT (f : List Int) (p : Int × Int) : Int × Int := norm (at0 f p.1, at0 f p.2)
def spLess : Sp := fun vs H Q _ => ∃ a b : Int, vs = [.int a, .int b] /\ ∀ d, H d = none -> Q (.ref d) (upd H d (.tup [.int (norm (a, b)).1, .int (norm (a, b)).2]))
def spTiesAt (K : W.Frag) : Sp := fun vs H Q _ => ∃ (kd : Kd) (t a : Addr) (n : Int) (f : List Int) (xs : List V) (ps : List (Int × Int)), vs = [.ref t, .ref a] /\ H t = some (.tup xs) /\ Paired (TieAt H) xs ps /\ SqK kd K H a (f.map V.int) /\ n <= (f.length : Int) /\ (∀ p ∈ ps, InN n p) /\ ps.length <= 8 /\
  ∀ r ys H', Same H H' -> H' r = some (.tup ys) -> Paired (TieAt H') ys (ps.map (renT f)) -> Q (.ref r) H'
section
variable {P : Program} {w : World} {K : W.Frag} {mg : Str -> Option Value} {base : Heap}
theorem scLess : FnScope ["a", "b"] ["a", "b"] (defScope sLesser) := ⟨rfl, rfl, rfl, by decide +kernel, rfl, by decide +kernel, by decide +kernel⟩
theorem d_less (S : Src K mg "lesser_first" sLesser ["a", "b"]) : Def P w K mg base 1 "lesser_first" ["a", "b"] spLess := by
  refine S.def scLess (fun vs H Q E h => ?_) (fun f cdv A outer s H vs Q E hr h => ?_)
  · obtain ⟨_, _, rfl, _⟩ := h; rfl
  · obtain ⟨a, b, rfl, q⟩ := h
    refine ⟨_, pss_one (ps_ret (pe_ifExp (pt_cmpR op_le (pv 0) (pv 1) (nomark _)) (pe_tup (pa_cons (pv 0) (pa_cons (pv 1) pa_nil))) (pe_tup (pa_cons (pv 1) (pa_cons (pv 0) pa_nil))))), ?_⟩
    refine ⟨_, rfl, _, rfl, _, _, rfl, rfl, _, rfl, ?_⟩
    by_cases h : a <= b
    · rw [decide_eq_true h]
      refine iteT ⟨_, rfl, _, rfl, by show 2 <= sizeLine; decide, fun d hd => ?_⟩
      have := q d hd
      rw [show norm (a, b) = (a, b) from if_pos h] at this
      exact this
    · rw [decide_eq_false h]
      refine iteF ⟨_, rfl, _, rfl, by show 2 <= sizeLine; decide, fun d hd => ?_⟩
      have := q d hd
      rw [show norm (a, b) = (b, a) from if_neg h] at this
      exact this
theorem scTiesAt : FnScope ["ties", "places"] ["ties", "places"] (defScope sTiesAt) := ⟨rfl, rfl, rfl, by decide +kernel, rfl, by decide +kernel, by decide +kernel⟩
theorem ndabp : (["a", "b", "places"] : List Str).Nodup := by decide +kernel
theorem d_tiesat (T : Txt K mg) (S : Src K mg "ties_at" sTiesAt ["ties", "places"]) (DL : Def P w K mg base 1 "lesser_first" ["a", "b"] spLess) : Def P w K mg base 2 "ties_at" ["ties", "places"] (spTiesAt K) := by
  refine S.def scTiesAt (fun vs H Q E h => ?_) (fun f cdv A outer s H vs Q E hr h => ?_)
  · obtain ⟨_, _, _, _, _, _, _, rfl, _⟩ := h; rfl
  · obtain ⟨kd, t, a, n, f, xs, ps, rfl, ht, pt, ha, hn, hb, h8, q⟩ := h
    have xl : xs.length = ps.length := Paired.length pt
    refine ⟨_, pss_one (ps_ret (pe_callTy (call_tuple_ofK K) rfl T.tuple boot_tuple' (pa_cons (pe_comp (N' := ["a", "b", "places"]) (fr := [none, none, some 1]) (compOk_of (by rfl)) rfl (pi_seqK K .t (pv 0))
      (g := gTup K 2 (gCons (gName 0) (gCons (gName 1) gNil))) (fun _ _ _ _ => pg_tupK K 2 rfl (pgs_cons (pg_name (i := 0) ndabp rfl (Or.inl rfl) (Or.inr rfl)) (pgs_cons (pg_name (i := 1) ndabp rfl (Or.inl rfl) (Or.inr rfl)) pgs_nil))) (fun _ _ _ _ => pifs_nil)
      (fun _ _ _ _ => pe_def DL hr rfl (pa_cons (pe_ix (r := rIxK kd K) (ix_kd kd) (pv 2) (pv 0) (fun _ _ => rfl)) (pa_cons (pe_ix (r := rIxK kd K) (ix_kd kd) (pv 2) (pv 1) (fun _ _ => rfl)) pa_nil)))) pa_nil))), ?_⟩
    refine ⟨_, rfl, t, rfl, ⟨_, SqT.of ht⟩, comp_seq (k := .t) (a := t) (xs := xs) (fun σ => ∃ u v, σ = [u, v, some (.ref a)]) (fun j ys H2 => Same H H2 /\ Paired (TieAt H2) ys ((ps.take j).map (renT f))) ⟨_, _, rfl⟩ ⟨Same.refl _, .nil⟩ (ten_line (by lia)) (fun j ys H2 _ z => SqT.of (z.1 _ _ ht)) ?_ ?_⟩
    · rintro j x ys σ H2 N hx ⟨u, v, rfl⟩ ⟨s2, hys⟩ hN
      obtain ⟨p, ep, c, rfl, hc⟩ := Paired.at pt hx
      obtain ⟨b1, b2, b3, b4⟩ := hb p (List.mem_of_getElem? ep)
      have a0 := at_int (l := f) (i := p.1) b1 (by lia)
      have a1 := at_int (l := f) (i := p.2) b3 (by lia)
      have ha2 := s2.seqK ha
      refine ⟨c, _, rfl, SqT.of (s2 _ _ hc), rfl, _, _, rfl, _, _, rfl, rfl, ?_⟩
      dsimp only [gName, List.set]
      refine yesT ⟨_, rfl, _, rfl, a, _, _, _, rfl, rfl, ha2, a0, _, rfl, _, rfl, a, _, _, _, rfl, rfl, ha2, a1, _, _, rfl, fun d hd => ?_⟩
      have s3 := Same.new (o := HO.tup [.int (norm (at0 f p.1, at0 f p.2)).1, .int (norm (at0 f p.1, at0 f p.2)).2]) hd
      refine hN _ _ _ ⟨_, _, rfl⟩ ⟨s2.trans s3, ?_⟩ (by simp)
      rw [take_succ_of ep, List.map_append]
      exact L2.Paired.snoc (ties_same hys s3) ⟨d, rfl, upd_same⟩
    · rintro ys H2 ⟨s2, hys⟩ p3 hp3
      rw [xl, List.take_length] at hys
      have s3 := Same.new (o := HO.lst ys) hp3
      refine ⟨p3, ys, rfl, .inl ⟨SqL.of upd_same, fun d hd => ?_⟩⟩
      have s4 := Same.new (o := HO.tup ys) hd
      exact q d ys _ (s2.trans (s3.trans s4)) upd_same (ties_same hys (s3.trans s4))
end
theorem in_ints (c : Int) : ∀ ties : List Int, inV (.int c) (ties.map V.int) = decide (c ∈ ties)
  | [] => rfl
  | x :: l => by
    have ih := in_ints c l
    unfold inV at ih ⊢
    rw [List.map_cons, List.any_cons, ih]
    show (x == c || decide (c ∈ l)) = decide (c ∈ x :: l)
    rw [Bool.eq_iff_iff]
    simp only [Bool.or_eq_true, beq_iff_eq, decide_eq_true_iff, List.mem_cons]
    exact ⟨fun h => h.imp Eq.symm id, fun h => h.imp Eq.symm id⟩
theorem all_flat (l : List Int) : (l.map V.int).all flatV = true := by
  rw [List.all_eq_true]
  intro x hx
  obtain ⟨_, _, rfl⟩ := List.mem_map.mp hx
  rfl
theorem filt_take {α : Type} (f : α -> Bool) {l : List α} {i : Nat} {k : α} (h : l[i]? = some k) : (l.take (i + 1)).filter f = (l.take i).filter f ++ if f k = true then [k] else [] := by
  rw [take_succ_of h, List.filter_append]
  congr 1
  cases e : f k <;> simp [e]
theorem boot_any' : bootBuiltins "any" = some (.builtin "any") := by first | rfl | decide +kernel
def endB (ps : List (Int × Int)) (ks : List Int) (x : Int) : Bool := (ks.map fun k => decide (x ∈ [(tieN ps k).1, (tieN ps k).2])).any id
def restP (m : Nat) (ks : List Int) : List Int := (ups m).filter fun k => !decide (k ∈ ks)
def ApB (n u v : Int) (ps : List (Int × Int)) (ks : List Int) : Prop := ∀ x : Int, 0 <= x -> x < n -> x ≠ u -> x ≠ v -> endB ps ks x = true -> endB ps (restP ps.length ks) x = true -> False
def plc (n u v : Int) : List Int := ((ups n).set u.toNat v).set v.toNat u
def turnP (n u v : Int) (ps : List (Int × Int)) (ks : List Int) : List (Int × Int) := (ups ps.length).map fun k => if k ∈ ks then renT (plc n u v) (tieN ps k) else tieN ps k
def spEndIn (K : W.Frag) : Sp := fun vs H Q _ => ∃ (kd : Kd) (wv : V) (tk : Addr) (n : Int) (ps : List (Int × Int)) (ks : List Int) (x : Int), vs = [wv, .ref tk, .int x] /\ WebAt H wv n ps /\ SqK kd K H tk (ks.map V.int) /\ Ks ps.length ks /\ ks.length <= 8 /\ ∀ H', Same H H' -> Q (.bl (endB ps ks x)) H'
def spNotAp (K : W.Frag) : Sp := fun vs H Q _ => ∃ (wv : V) (pk : Addr) (n : Int) (ps : List (Int × Int)) (ks : List Int) (u v : Int), vs = [wv, .ref pk, .int u, .int v] /\ WebAt H wv n ps /\ WebOk n ps /\ SqT K H pk (ks.map V.int) /\ Ks ps.length ks /\ ks.length <= 8 /\ ApB n u v ps ks /\ ∀ H', Same H H' -> Q .non H'
def spTurn (K : W.Frag) : Sp := fun vs H Q _ => ∃ (wv : V) (pk : Addr) (n : Nat) (ps : List (Int × Int)) (ks : List Int) (u v : Int), vs = [wv, .ref pk, .int u, .int v] /\ WebAt H wv n ps /\ WebOk n ps /\ SqT K H pk (ks.map V.int) /\ Ks ps.length ks /\ ks.length <= 8 /\ (0 <= u /\ u < (n : Int)) /\ (0 <= v /\ v < (n : Int)) /\ u ≠ v /\ ApB n u v ps ks /\
  ∀ w' H', Same H H' -> WebAt H' w' n (turnP n u v ps ks) -> Q w' H'
theorem restP_ks (m : Nat) (ks : List Int) : Ks m (restP m ks) := fun k hk => mem_ups.mp (List.mem_filter.mp hk).1
theorem restP_len (m : Nat) (ks : List Int) : (restP m ks).length <= m := by
  have := List.length_filter_le (fun k => !decide (k ∈ ks)) (ups m)
  rw [ups_len] at this
  unfold restP
  lia
theorem plc_len (n : Nat) (u v : Int) : (plc n u v).length = n := by unfold plc; rw [List.length_set, List.length_set, ups_len]; lia
section
variable {P : Program} {w : World} {K : W.Frag} {mg : Str -> Option Value} {base : Heap}
theorem scEndIn : FnScope ["web", "ties", "point"] ["web", "ties", "point"] (defScope sEndIn) := ⟨rfl, rfl, rfl, by decide +kernel, rfl, by decide +kernel, by decide +kernel⟩
theorem ndkpw : (["k", "point", "web"] : List Str).Nodup := by decide +kernel
theorem d_endin (hany : mg "any" = none) (S : Src K mg "is_end_in" sEndIn ["web", "ties", "point"]) : Def P w K mg base 1 "is_end_in" ["web", "ties", "point"] (spEndIn K) := by
  refine S.def scEndIn (fun vs H Q E h => ?_) (fun f cdv A outer s H vs Q E hr h => ?_)
  · obtain ⟨_, _, _, _, _, _, _, rfl, _⟩ := h; rfl
  · obtain ⟨kd, wv, tk, n, ps, ks, x, rfl, W, hk, hks, k8, q⟩ := h
    obtain ⟨c, d, xs, rfl, hc, hd, ht⟩ := W.ex
    refine ⟨_, pss_one (ps_ret (pe_callB (call_any rfl) (by rfl) hany boot_any' (pa_cons (pe_comp (N' := ["k", "point", "web"]) (fr := [none, some 2, some 0]) (compOk_of (by rfl)) rfl (pi_seqK K kd (pv 1)) (fun _ _ _ _ => pg_name (i := 0) ndkpw rfl (Or.inl rfl) (Or.inr rfl)) (fun _ _ _ _ => pifs_nil)
      (fun _ _ _ _ => pe_cmpR (r := rIn K false) op_in_seq (pv 1) (pe_ix (r := rIxT K) (ix_tupK K) (pe_ix (r := rIxT K) (ix_tupK K) (pv 2) pe_int (fun _ _ => rfl)) (pv 0) (fun _ _ => rfl)) rfl)) pa_nil))), ?_⟩
    have i1 : atI ([.int n, .ref d] : List V) 1 = some (.ref d) := atI_nat (j := 1) rfl
    refine ⟨_, rfl, tk, rfl, ⟨_, hk⟩, comp_seq (k := kd) (a := tk) (xs := ks.map V.int) (fun σ => ∃ v, σ = [v, some (.int x), some (.ref c)]) (fun i ys H2 => H2 = H /\ ys = ((ks.take i).map fun k => decide (x ∈ [(tieN ps k).1, (tieN ps k).2])).map V.bl) ⟨_, rfl⟩ ⟨rfl, rfl⟩ (by rw [List.length_map]; exact ten_line (by lia)) (fun i ys H2 _ z => by rw [z.1]; exact hk) ?_ ?_⟩
    · rintro i y ys σ H2 N hx ⟨v, rfl⟩ ⟨rfl, rfl⟩ hN
      obtain ⟨k, ek, rfl⟩ := get_int' hx
      obtain ⟨k0, kl⟩ := hks k (List.mem_of_getElem? ek)
      obtain ⟨tc, et, htc⟩ := at_tie ht k0 kl
      dsimp only [gName, List.set]
      refine yesT ⟨_, rfl, _, rfl, c, _, _, _, rfl, rfl, SqT.of hc, i1, _, rfl, d, _, _, _, rfl, rfl, SqT.of hd, et, tc, _, rfl, .inr (SqT.of htc), rfl, rfl, ?_⟩
      rw [if_neg Bool.false_ne_true, show inV (.int x) [V.int (tieN ps k).1, V.int (tieN ps k).2] = decide (x ∈ [(tieN ps k).1, (tieN ps k).2]) from in_ints x [(tieN ps k).1, (tieN ps k).2]]
      refine hN _ _ _ ⟨_, rfl⟩ ⟨rfl, ?_⟩ (by simp)
      rw [take_succ_of ek, List.map_append, List.map_append]
      rfl
    · rintro ys H2 ⟨rfl, rfl⟩ p hp
      rw [List.length_map, List.take_length]
      exact ⟨p, _, rfl, SqL.of upd_same, q _ (Same.new hp)⟩
theorem scNotAp : FnScope ["web", "pick", "u", "v", "rest", "point"] ["web", "pick", "u", "v"] (defScope sNotAp) := ⟨rfl, rfl, rfl, by decide +kernel, rfl, by decide +kernel, by decide +kernel⟩
theorem ndkp : (["k", "pick"] : List Str).Nodup := by decide +kernel
theorem d_notap (T : Txt K mg) (S : Src K mg "refuse_not_apart" sNotAp ["web", "pick", "u", "v"]) (DW : Def P w K mg base 1 "whole_pick" ["web"] spWP) (DE : Def P w K mg base 1 "is_end_in" ["web", "ties", "point"] (spEndIn K)) : Def P w K mg base 2 "refuse_not_apart" ["web", "pick", "u", "v"] (spNotAp K) := by
  refine S.def scNotAp (fun vs H Q E h => ?_) (fun f cdv A outer s H vs Q E hr h => ?_)
  · obtain ⟨_, _, _, _, _, _, _, rfl, _⟩ := h; rfl
  · obtain ⟨wv, pk, n, ps, ks, u, v, rfl, W, ⟨⟨n1, n9⟩, hb, h8⟩, hk, hks, k8, ap, q⟩ := h
    obtain ⟨c, d, xs, rfl, hc, hd, ht⟩ := id W.ex
    obtain ⟨m, rfl⟩ := Int.eq_ofNat_of_zero_le (show 0 <= n by lia)
    have hr1 : Room 1 _ := hr.mono (by decide)
    refine ⟨_, pss_cons (ps_setComp (i := 4) scNotAp.nd rfl (Or.inl rfl) (N' := ["k", "pick"]) (fr := [none, some 1]) (compOk_of (by rfl)) rfl (pi_seqK K .t (pe_def DW hr1 rfl (pa_cons (pv 0) pa_nil)))
        (fun _ _ _ _ => pg_name (i := 0) ndkp rfl (Or.inl rfl) (Or.inr rfl)) (fun _ _ _ _ => pifs_one (pt_cmpR (r := rIn K true) op_notIn_seq (pv 0) (pv 1) rfl)) (fun _ _ _ _ => pv 0))
      (pss_one (ps_for PassesOwn.never rfl (pi_range1 rfl T.range (pa_cons (pe_ix (ix_tupK K) (pv 0) pe_int (fun _ _ => rfl)) pa_nil)) (pg_name (i := 5) scNotAp.nd rfl (Or.inl rfl))
        (pss_one (ps_if (PW.pt (pw_and (pt_cmpR op_notIn_seq (pv 5) (pe_tup (pa_cons (pv 2) (pa_cons (pv 3) pa_nil))) rfl) (pw_and (pt_val (pe_def DE hr1 rfl (pa_cons (pv 0) (pa_cons (pv 1) (pa_cons (pv 5) pa_nil))))) (pw_and1 (pt_val (pe_def DE hr1 rfl (pa_cons (pv 0) (pa_cons (pv 4) (pa_cons (pv 5) pa_nil))))))))) pss_never pss_nil)))), ?_⟩
    have i0 : atI ([.int (m : Int), .ref d] : List V) 0 = some (.int (m : Int)) := atI_nat (j := 0) rfl
    refine ⟨_, rfl, .ref c, (m : Int), ps, rfl, W, h8, fun t H1 s1 ht1 => ⟨t, rfl, ⟨_, SqT.of ht1⟩, ?_⟩⟩
    refine comp_seq (k := .t) (a := t) (xs := (ups ps.length).map V.int) (fun σ => ∃ u, σ = [u, some (.ref pk)]) (fun i ys H2 => H2 = H1 /\ ys = (((ups ps.length).take i).filter fun k => !decide (k ∈ ks)).map V.int) ⟨_, rfl⟩ ⟨rfl, rfl⟩ (by rw [List.length_map, ups_len]; exact ten_line (by lia)) (fun i ys H2 _ z => by rw [z.1]; exact SqT.of ht1) ?_ ?_
    · rintro i y ys σ H2 N hx ⟨u, rfl⟩ ⟨rfl, rfl⟩ hN
      obtain ⟨k, ek, rfl⟩ := get_int' hx
      dsimp only [gName, List.set]
      refine ⟨_, rfl, _, rfl, pk, ks.map V.int, rfl, .inr (s1.tup hk), rfl, all_flat _, _, rfl, ?_⟩
      rw [if_pos rfl, in_ints]
      refine ite2 (fun z => ⟨_, rfl, ?_⟩) (fun z => ?_)
      · refine hN _ _ _ ⟨_, rfl⟩ ⟨rfl, ?_⟩ (by simp)
        rw [filt_take _ ek, if_pos z, List.map_append]
        rfl
      · refine hN _ _ _ ⟨_, rfl⟩ ⟨rfl, ?_⟩ (by simp)
        rw [filt_take _ ek, if_neg z, List.append_nil]
    · rintro ys H2 ⟨rfl, rfl⟩ p3 hp3
      have el : ((ups (ps.length : Int)).map V.int).length = ps.length := by rw [List.length_map, ups_len]; lia
      rw [el, List.take_of_length_le (by rw [ups_len]; lia)]
      have s3 := s1.trans (Same.new (o := HO.lst ((restP ps.length ks).map V.int)) hp3)
      have h3 : (upd H2 p3 (.lst ((restP ps.length ks).map V.int))) p3 = some (.lst ((restP ps.length ks).map V.int)) := upd_same
      unfold restP at s3 h3
      generalize upd H2 p3 (.lst (((ups ps.length).filter fun k => !decide (k ∈ ks)).map V.int)) = H3 at s3 h3 ⊢
      dsimp only [List.set]
      refine ⟨_, rfl, c, _, _, _, rfl, rfl, SqT.of (s3 _ _ hc), i0, (m : Int), rfl, by lia, by lia, ?_⟩
      rw [Int.toNat_natCast]
      refine for_range (lo := 0) (n := m) (fun j σ H' => (∃ z, σ = [some (.ref c), some (.ref pk), some (.int u), some (.int v), some (.ref p3), z]) /\ Same H3 H') ⟨⟨_, rfl⟩, Same.refl _⟩ ?_ ?_
      · rintro j σ H4 hj ⟨⟨z, rfl⟩, sm⟩
        rw [show (0 : Int) + (j : Int) = (j : Int) by lia]
        dsimp only [gName, List.set]
        refine ⟨_, rfl, _, rfl, _, rfl, by show 2 <= sizeLine; decide, fun g hg => ⟨g, [.int u, .int v], rfl, .inr (SqT.of upd_same), rfl, rfl, _, rfl, ?_⟩⟩
        have s5 := sm.trans (Same.new (o := HO.tup [.int u, .int v]) hg)
        generalize upd H4 g (.tup [.int u, .int v]) = H5 at s5 ⊢
        rw [if_pos rfl, show inV (.int (j : Int)) [V.int u, V.int v] = decide ((j : Int) ∈ [u, v]) from in_ints (j : Int) [u, v]]
        refine ite2 (fun z1 => ?_) (fun z1 => iteF ⟨⟨_, rfl⟩, s5⟩)
        have nu : ¬ (j : Int) ∈ [u, v] := fun y => by rw [decide_eq_true y] at z1; cases z1
        have j1 : (j : Int) ≠ u := fun y => nu (by rw [y]; simp)
        have j2 : (j : Int) ≠ v := fun y => nu (by rw [y]; simp)
        refine ⟨_, rfl, _, rfl, _, rfl, .t, .ref c, pk, (m : Int), ps, ks, (j : Int), rfl, W.same (s3.trans s5), (s3.trans s5).tup hk, hks, k8, fun H6 s6 => ⟨_, rfl, ?_⟩⟩
        have s56 := s5.trans s6
        refine ite2 (fun z2 => ?_) (fun z2 => iteF ⟨⟨_, rfl⟩, s56⟩)
        refine ⟨_, rfl, _, rfl, _, rfl, .l, .ref c, p3, (m : Int), ps, restP ps.length ks, (j : Int), rfl, W.same (s3.trans s56), SqL.of (s56 _ _ h3), restP_ks _ _, Nat.le_trans (restP_len _ _) h8, fun H7 s7 => ⟨_, rfl, ?_⟩⟩
        refine ite2 (fun z3 => ?_) (fun z3 => ⟨⟨_, rfl⟩, s56.trans s7⟩)
        exact (ap (j : Int) (by lia) (by lia) j1 j2 z2 z3).elim
      · rintro σ H4 ⟨⟨z, rfl⟩, sm⟩
        exact q _ (s3.trans sm)
theorem scTurn : FnScope ["web", "pick", "u", "v", "places", "turned"] ["web", "pick", "u", "v"] (defScope sTurn) := ⟨rfl, rfl, rfl, by decide +kernel, rfl, by decide +kernel, by decide +kernel⟩
theorem ndkptw : (["k", "pick", "turned", "web"] : List Str).Nodup := by decide +kernel
theorem d_turn (T : Txt K mg) (S : Src K mg "turned_over" sTurn ["web", "pick", "u", "v"]) (DP : Def P w K mg base 3 "refuse_no_point_of" ["web", "point"] spNoPt) (DN : Def P w K mg base 2 "refuse_not_apart" ["web", "pick", "u", "v"] (spNotAp K)) (DA : Def P w K mg base 2 "ties_at" ["ties", "places"] (spTiesAt K)) (DW : Def P w K mg base 1 "whole_pick" ["web"] spWP) : Def P w K mg base 4 "turned_over" ["web", "pick", "u", "v"] (spTurn K) := by
  refine S.def scTurn (fun vs H Q E h => ?_) (fun f cdv A outer s H vs Q E hr h => ?_)
  · obtain ⟨_, _, _, _, _, _, _, rfl, _⟩ := h; rfl
  · obtain ⟨wv, pk, n, ps, ks, u, v, rfl, W, ok, hk, hks, k8, hu, hv, uv, ap, q⟩ := h
    obtain ⟨⟨n1, n9⟩, hb, h8⟩ := id ok
    obtain ⟨c, d, xs, rfl, hc, hd, ht⟩ := id W.ex
    have hr1 : Room 1 _ := hr.mono (by decide)
    have hr2 : Room 2 _ := hr.mono (by decide)
    refine ⟨_, pss_cons (ps_expr (pe_def DP hr rfl (pa_cons (pv 0) (pa_cons (pv 2) pa_nil))))
      (pss_cons (ps_expr (pe_def DP hr rfl (pa_cons (pv 0) (pa_cons (pv 3) pa_nil))))
      (pss_cons (ps_if (pt_cmpR op_eq (pv 2) (pv 3) (nomark _)) pss_never pss_nil)
      (pss_cons (ps_expr (pe_def DN hr2 rfl (pa_cons (pv 0) (pa_cons (pv 1) (pa_cons (pv 2) (pa_cons (pv 3) pa_nil))))))
      (pss_cons (ps_set (i := 4) scTurn.nd rfl (Or.inl rfl) (pe_callTy (call_list_rng rfl) rfl T.list boot_list' (pa_cons (pe_callTy call_range1 rfl T.range boot_range' (pa_cons (pe_ix (ix_tupK K) (pv 0) pe_int (fun _ _ => rfl)) pa_nil)) pa_nil)))
      (pss_cons (ps_asg (pv 3) (pg_sub (pv 4) (pv 2) set_list))
      (pss_cons (ps_asg (pv 2) (pg_sub (pv 4) (pv 3) set_list))
      (pss_cons (ps_set (i := 5) scTurn.nd rfl (Or.inr rfl) (pe_def DA hr2 rfl (pa_cons (pe_ix (ix_tupK K) (pv 0) pe_int (fun _ _ => rfl)) (pa_cons (pv 4) pa_nil))))
      (pss_one (ps_ret (pe_tup (pa_cons (pe_ix (ix_tupK K) (pv 0) pe_int (fun _ _ => rfl)) (pa_cons (pe_callTy (call_tuple_ofK K) rfl T.tuple boot_tuple' (pa_cons (pe_comp (N' := ["k", "pick", "turned", "web"]) (fr := [none, some 1, some 5, some 0]) (compOk_of (by rfl)) rfl (pi_seqK K .t (pe_def DW hr1 rfl (pa_cons (pv 0) pa_nil)))
        (fun _ _ _ _ => pg_name (i := 0) ndkptw rfl (Or.inl rfl) (Or.inr rfl)) (fun _ _ _ _ => pifs_nil)
        (fun _ _ _ _ => pe_ifExp (pt_cmpR (r := rIn K false) op_in_seq (pv 0) (pv 1) rfl) (pe_ix (r := rIxT K) (ix_tupK K) (pv 2) (pv 0) (fun _ _ => rfl)) (pe_ix (r := rIxT K) (ix_tupK K) (pe_ix (r := rIxT K) (ix_tupK K) (pv 3) pe_int (fun _ _ => rfl)) (pv 0) (fun _ _ => rfl)))) pa_nil)) pa_nil)))))))))))), ?_⟩
    have i0 : atI ([.int (n : Int), .ref d] : List V) 0 = some (.int (n : Int)) := atI_nat (j := 0) rfl
    have i1 : atI ([.int (n : Int), .ref d] : List V) 1 = some (.ref d) := atI_nat (j := 1) rfl
    refine ⟨_, rfl, _, rfl, .ref c, (n : Int), ps, u, rfl, W, hu.1, hu.2, ?_⟩
    refine ⟨_, rfl, _, rfl, .ref c, (n : Int), ps, v, rfl, W, hv.1, hv.2, ?_⟩
    refine ⟨_, rfl, _, rfl, rfl, _, rfl, ?_⟩
    rw [decide_eq_false (show ¬ V.int u = V.int v from fun z => uv (by injection z))]
    refine iteF ?_
    refine ⟨_, rfl, _, rfl, _, rfl, _, rfl, .ref c, pk, (n : Int), ps, ks, u, v, rfl, W, ok, hk, hks, k8, ap, fun H0 s0 => ?_⟩
    refine ⟨_, rfl, c, _, _, _, rfl, rfl, SqT.of (s0 _ _ hc), i0, _, rfl, fun p hp => ⟨p, n, rfl, upd_same, by lia, fun l hl => ?_⟩⟩
    have lN : H l = none := was_none (s0.trans (Same.new (o := HO.rng 0 n) hp)) hl
    have s1 := s0.trans ((Same.new (o := HO.rng 0 n) hp).trans (Same.new (o := HO.lst (upN n)) hl))
    have hl1 : (upd (upd H0 p (.rng 0 n)) l (.lst (upN n))) l = some (.lst ((ups n).map V.int)) := by rw [upd_same, upN_ups]
    generalize upd (upd H0 p (.rng 0 n)) l (.lst (upN n)) = H1 at s1 hl1 ⊢
    dsimp only [List.set]
    have ixu : ∀ (z : Int) (ms : List Int), 0 <= z -> z < (n : Int) -> ms.length = n -> ixN (ms.map V.int).length z = some z.toNat := fun z ms z0 zn e => by
      unfold ixN
      rw [if_pos z0, List.length_map, if_pos (by lia)]
    refine ⟨_, rfl, _, rfl, _, rfl, l, _, u, u.toNat, rfl, rfl, hl1, ixu u (ups n) hu.1 hu.2 (by rw [ups_len]; lia), ?_⟩
    have s2 := put_fresh (o := .lst (((ups n).map V.int).set u.toNat (.int v))) s1 lN
    have hl2 : (upd H1 l (.lst (((ups n).map V.int).set u.toNat (.int v)))) l = some (.lst (((ups n).set u.toNat v).map V.int)) := by rw [upd_same, List.map_set]
    generalize upd H1 l (.lst (((ups n).map V.int).set u.toNat (.int v))) = H2 at s2 hl2 ⊢
    refine ⟨_, rfl, _, rfl, _, rfl, l, _, v, v.toNat, rfl, rfl, hl2, ixu v ((ups n).set u.toNat v) hv.1 hv.2 (by rw [List.length_set, ups_len]; lia), ?_⟩
    have s3 := put_fresh (o := .lst ((((ups n).set u.toNat v).map V.int).set v.toNat (.int u))) s2 lN
    have hl3 : (upd H2 l (.lst ((((ups n).set u.toNat v).map V.int).set v.toNat (.int u)))) l = some (.lst ((plc n u v).map V.int)) := by rw [upd_same, <- List.map_set]; rfl
    generalize upd H2 l (.lst ((((ups n).set u.toNat v).map V.int).set v.toNat (.int u))) = H3 at s3 hl3 ⊢
    refine ⟨_, rfl, c, _, _, _, rfl, rfl, SqT.of (s3 _ _ hc), i1, _, rfl, .l, d, l, (n : Int), plc n u v, xs, ps, rfl, s3 _ _ hd, ties_same ht s3, SqL.of hl3, by rw [plc_len]; exact Int.le_refl _, hb, h8, fun r ys H4 s4 hr4 py => ?_⟩
    have s04 := s3.trans s4
    have hc4 := s04 _ _ hc
    have hd4 := s04 _ _ hd
    have ht4 := ties_same ht s04
    dsimp only [List.set]
    refine ⟨_, rfl, c, _, _, _, rfl, rfl, SqT.of hc4, i0, _, rfl, .ref c, (n : Int), ps, rfl, W.same s04, h8, fun t H5 s5 ht5 => ⟨t, rfl, ⟨_, SqT.of ht5⟩, ?_⟩⟩
    have s05 := s04.trans s5
    have ym : ys.length = (ps.map (renT (plc n u v))).length := Paired.length py
    refine comp_seq (k := .t) (a := t) (xs := (ups ps.length).map V.int) (fun σ => ∃ z, σ = [z, some (.ref pk), some (.ref r), some (.ref c)]) (fun i zs H6 => H6 = H5 /\ Paired (TieAt H5) zs (((ups ps.length).take i).map fun k => if k ∈ ks then renT (plc n u v) (tieN ps k) else tieN ps k)) ⟨_, rfl⟩ ⟨rfl, .nil⟩ (by rw [List.length_map, ups_len]; exact ten_line (by lia)) (fun i zs H6 _ z => by rw [z.1]; exact SqT.of ht5) ?_ ?_
    · rintro i y zs σ H6 N hx ⟨z, rfl⟩ ⟨rfl, hzs⟩ hN
      obtain ⟨k, ek, rfl⟩ := get_int' hx
      obtain ⟨k0, kl⟩ := mem_ups.mp (List.mem_of_getElem? ek)
      dsimp only [gName, List.set]
      refine yesT ⟨_, rfl, _, rfl, pk, ks.map V.int, rfl, .inr (s05.tup hk), rfl, all_flat _, _, rfl, ?_⟩
      rw [if_neg Bool.false_ne_true, in_ints]
      refine ite2 (fun z1 => ?_) (fun z1 => ?_)
      · have mk : k ∈ ks := of_decide_eq_true z1
        obtain ⟨tc, et, htc⟩ := at_tie (ties_same py s5) k0 (by rw [List.length_map]; exact kl)
        have en : tieN (ps.map (renT (plc n u v))) k = renT (plc n u v) (tieN ps k) := by
          unfold tieN
          have h2 : k.toNat < ps.length := by lia
          rw [List.getD_eq_getElem?_getD, List.getElem?_map, List.getD_eq_getElem?_getD, List.getElem?_eq_getElem h2]
          rfl
        rw [en] at htc
        refine ⟨_, rfl, _, rfl, r, _, _, _, rfl, rfl, SqT.of (s5 _ _ hr4), et, ?_⟩
        refine hN _ _ _ ⟨_, rfl⟩ ⟨rfl, ?_⟩ (by simp)
        rw [take_succ_of ek, List.map_append, List.map_cons, List.map_nil, if_pos mk]
        exact L2.Paired.snoc hzs ⟨tc, rfl, htc⟩
      · have mk : ¬ k ∈ ks := fun y => z1 (decide_eq_true y)
        obtain ⟨tc, et, htc⟩ := at_tie (ties_same ht s05) k0 kl
        refine ⟨_, rfl, c, _, _, _, rfl, rfl, SqT.of (s5 _ _ hc4), i1, _, rfl, d, _, _, _, rfl, rfl, SqT.of (s5 _ _ hd4), et, ?_⟩
        refine hN _ _ _ ⟨_, rfl⟩ ⟨rfl, ?_⟩ (by simp)
        rw [take_succ_of ek, List.map_append, List.map_cons, List.map_nil, if_neg mk]
        exact L2.Paired.snoc hzs ⟨tc, rfl, htc⟩
    · rintro zs H6 ⟨rfl, hzs⟩ p7 hp7
      have el : ((ups (ps.length : Int)).map V.int).length = ps.length := by rw [List.length_map, ups_len]; lia
      rw [el, List.take_of_length_le (by rw [ups_len]; lia)] at hzs
      have s7 := Same.new (o := HO.lst zs) hp7
      refine ⟨p7, zs, rfl, .inl ⟨SqL.of upd_same, fun e he => ⟨by show 2 <= sizeLine; decide, fun g hg => ?_⟩⟩⟩
      have s8 := Same.new (o := HO.tup zs) he
      have s9 := Same.new (o := HO.tup [.int (n : Int), .ref e]) hg
      exact q (.ref g) _ (s05.trans (s7.trans (s8.trans s9))) ⟨g, e, zs, rfl, upd_same, s9 _ _ upd_same, ties_same hzs (s7.trans (s8.trans s9))⟩
end
structure OkW (n m : Nat) (ps : List (Int × Int)) : Prop where
  hb : ∀ p ∈ ps, InN n p
  nm : NrmP ps
  len : ps.length = m
def spAt (K : W.Frag) : Sp := fun vs H Q _ => ∃ (a : Addr) (ns : List Int) (k : Nat), vs = [.ref a, .int k] /\ SqL K H a (ns.map V.int) /\ Q (.int (ns.getD k 0)) H
def spWeb8 (K : W.Frag) : Sp := fun vs H Q _ => ∃ (a : Addr) (ns : List Int), vs = [.ref a, .int 6] /\ SqL K H a (ns.map V.int) /\ ∀ wv (n : Nat) ps H', Same H H' -> WebAt H' wv n ps -> OkW n ps.length ps -> 2 <= n -> n <= 9 -> ps.length <= 8 -> Q wv H'
theorem cut_to (ns : List Int) (m : Int) (h0 : 0 <= m) (h8 : m <= 8) : ∃ ms : List Int, cutV (ns.map V.int) (some 1) (some (1 + m)) = ms.map V.int /\ ms.length <= 8 := by
  obtain ⟨j, rfl⟩ := Int.eq_ofNat_of_zero_le h0
  refine ⟨(ns.drop (HT.sIx (ns.map V.int).length 0 (some ((1 : Nat) : Int)))).take (HT.sIx (ns.map V.int).length (ns.map V.int).length (some ((1 + j : Nat) : Int)) - HT.sIx (ns.map V.int).length 0 (some ((1 : Nat) : Int))), ?_, ?_⟩
  · rw [show (1 + (j : Int)) = ((1 + j : Nat) : Int) by lia, show (some (1 : Int)) = some ((1 : Nat) : Int) from rfl]
    unfold cutV
    rw [List.map_take, List.map_drop]
  · rw [List.length_take, HT.sIx_nat, HT.sIx_nat]
    lia
theorem last_tie {H : Hp} {xs : List V} {ps : List (Int × Int)} (h : Paired (TieAt H) xs ps) (ne : xs ≠ []) : ∃ c p, atI xs (-1) = some (.ref c) /\ H c = some (.tup [.int p.1, .int p.2]) /\ p ∈ ps := by
  have hl : 0 < xs.length := List.length_pos_iff.mpr ne
  obtain ⟨p, e1, c, e2, e3⟩ := Paired.at h (show xs[xs.length - 1]? = some xs[xs.length - 1] by simp [hl])
  refine ⟨c, p, ?_, e3, List.mem_of_getElem? e1⟩
  have g : xs.getLast ne = .ref c := by rw [List.getLast_eq_getElem, e2]
  rw [<- List.dropLast_concat_getLast ne, g]
  exact atI_last _ _
section
variable {P : Program} {w : World} {K : W.Frag} {mg : Str -> Option Value} {base : Heap}
theorem scAt : FnScope ["_law_script", "_law_k"] ["_law_script", "_law_k"] (defScope sAt) := ⟨rfl, rfl, rfl, by decide +kernel, rfl, by decide +kernel, by decide +kernel⟩
theorem d_at (T : Txt K mg) (S : Src K mg "_law_at" sAt ["_law_script", "_law_k"]) : Def P w K mg base 1 "_law_at" ["_law_script", "_law_k"] (spAt K) := by
  refine S.def scAt (fun vs H Q E h => ?_) (fun f cdv A outer s H vs Q E hr h => ?_)
  · obtain ⟨_, _, _, rfl, _⟩ := h; rfl
  · obtain ⟨a, ns, k, rfl, hq, q⟩ := h
    refine ⟨_, pss_cons (ps_if (pt_cmpR op_lt (pv 1) (pe_callB (call_lenK K) (by rfl) T.len PySem.boot_len (pa_cons (pv 0) pa_nil)) (nomark _)) (pss_one (ps_ret (pe_ix (ix_listK K) (pv 0) (pv 1) (fun _ _ => rfl)))) pss_nil) (pss_one (ps_ret pe_int)), ?_⟩
    refine ⟨_, rfl, _, rfl, a, _, rfl, .inl hq, _, _, rfl, rfl, _, rfl, ?_⟩
    rw [List.length_map]
    by_cases h : k < ns.length
    · rw [decide_eq_true (show (k : Int) < (ns.length : Int) by lia)]
      refine iteT ⟨_, rfl, _, rfl, a, _, _, .int (ns.getD k 0), rfl, rfl, hq, atI_nat ?_, q⟩
      rw [List.getElem?_map, List.getD_eq_getElem?_getD]
      simp [h]
    · rw [decide_eq_false (show ¬ (k : Int) < (ns.length : Int) by lia)]
      refine iteF ?_
      rw [List.getD_eq_getElem?_getD, List.getElem?_eq_none (by lia)] at q
      exact q
theorem scWeb : FnScope ["_law_script", "_law_few", "_law_head", "_law_points", "_law_most", "_law_ties", "_law_cell", "_law_a", "_law_b"] ["_law_script", "_law_few"] (defScope sWeb) := ⟨rfl, rfl, rfl, by decide +kernel, rfl, by decide +kernel, by decide +kernel⟩
theorem d_web (T : Txt K mg) (S : Src K mg "_law_web" sWeb ["_law_script", "_law_few"]) (DA : Def P w K mg base 1 "_law_at" ["_law_script", "_law_k"] (spAt K)) : Def P w K mg base 2 "_law_web" ["_law_script", "_law_few"] (spWeb8 K) := by
  refine S.def scWeb (fun vs H Q E h => ?_) (fun f cdv A outer s H vs Q E hr h => ?_)
  · obtain ⟨_, _, rfl, _⟩ := h; rfl
  · obtain ⟨a, ns, rfl, hq, q⟩ := h
    have hr1 : Room 1 _ := hr.mono (by decide)
    refine ⟨_, pss_cons (ps_set (i := 2) scWeb.nd rfl (Or.inl rfl) (pe_def DA hr1 rfl (pa_cons (pv 0) (pa_cons pe_int pa_nil))))
      (pss_cons (ps_set (i := 3) scWeb.nd rfl (Or.inl rfl) (pe_op op_add pe_int (pe_op op_mod (pv 2) pe_int)))
      (pss_cons (ps_if (pt_cmpR op_eq (pe_op op_mod (pe_op op_fdiv (pv 2) pe_int) pe_int) pe_int (nomark _)) (pss_one (ps_set (i := 3) scWeb.nd rfl (Or.inl rfl) (pe_op op_add pe_int (pe_op op_mod (pe_op op_fdiv (pv 2) pe_int) pe_int)))) pss_nil)
      (pss_cons (ps_set (i := 4) scWeb.nd rfl (Or.inl rfl) (pv 1))
      (pss_cons (ps_if (pt_cmpR op_eq (pe_op op_mod (pe_op op_fdiv (pv 2) pe_int) pe_int) pe_int (nomark _)) (pss_one (ps_set (i := 4) scWeb.nd rfl (Or.inl rfl) pe_int)) pss_nil)
      (pss_cons (ps_set (i := 5) scWeb.nd rfl (Or.inl rfl) (pe_lst pa_nil))
      (pss_cons (ps_for PassesOwn.never rfl (pi_seqK K .l (pe_slice (sl_listK K) (pv 0) (po_some pe_int) (po_some (pe_op op_add pe_int (pv 4))))) (pg_name (i := 6) scWeb.nd rfl (Or.inl rfl))
        (pss_cons (ps_set (i := 7) scWeb.nd rfl (Or.inl rfl) (pe_op op_mod (pv 6) (pv 3)))
        (pss_cons (ps_set (i := 8) scWeb.nd rfl (Or.inl rfl) (pe_op op_mod (pe_op op_fdiv (pv 6) (pv 3)) (pv 3)))
        (pss_cons (ps_if (PW.pt (pw_and (pt_cmpR op_eq (pe_op op_mod (pe_op op_fdiv (pv 6) pe_int) pe_int) pe_int (nomark _)) (pw_and1 (pt_cmpR (op_neNilK K (units66 hr)) (pv 5) (pe_lst pa_nil) (nomark _)))))
          (pss_one (ps_asg (pe_ix (ix_listK K) (pv 5) (pe_un un_neg pe_int) (fun _ _ => rfl)) (pg_tupK K 2 rfl (pgs_cons (pg_name (i := 7) scWeb.nd rfl (Or.inl rfl)) (pgs_cons (pg_name (i := 8) scWeb.nd rfl (Or.inl rfl)) pgs_nil))))) pss_nil)
        (pss_one (ps_expr (pe_bm PySem.F.plainAttrs_list PySem.F.slot_list_append PySem.F.type_list_append mt_append (pv 5) (pa_cons (pe_tup (pa_cons (pe_callB (call_min2 rfl) (by rfl) T.min boot_min' (pa_cons (pv 7) (pa_cons (pv 8) pa_nil))) (pa_cons (pe_callB (call_max2 rfl) (by rfl) T.max boot_max' (pa_cons (pv 7) (pa_cons (pv 8) pa_nil))) pa_nil))) pa_nil))))))))
      (pss_one (ps_ret (pe_tup (pa_cons (pv 3) (pa_cons (pe_callTy (call_tuple_ofK K) rfl T.tuple boot_tuple' (pa_cons (pv 5) pa_nil)) pa_nil))))))))))), ?_⟩
    refine ⟨_, rfl, a, ns, 0, rfl, hq, ?_⟩
    generalize ns.getD 0 0 = head
    have b1 := mod_in head 4 (by decide)
    have b2 := mod_in (head / 32) 8 (by decide)
    refine ⟨_, rfl, _, _, rfl, rfl, (by show (0 : Int) < 4; decide), _, _, rfl, rfl, ?_⟩
    refine ⟨_, rfl, _, _, rfl, rfl, ⟨by decide, by decide⟩, _, _, rfl, rfl, (by show (0 : Int) < 8; decide), rfl, _, rfl, ?_⟩
    refine ite_st (fun σ H1 => H = H1 /\ ∃ n : Nat, 2 <= n /\ n <= 9 /\ σ = [some (.ref a), some (.int 6), some (.int head), some (.int (n : Int)), none, none, none, none, none]) ?_ ⟨rfl, (2 + head % 4).toNat, by lia, by lia, by rw [show (((2 + head % 4).toNat : Nat) : Int) = 2 + head % 4 by lia]; rfl⟩ (fun key => ⟨_, rfl, _, _, rfl, rfl, ⟨by decide, by decide⟩, _, _, rfl, rfl, (by show (0 : Int) < 8; decide), _, _, rfl, rfl, key _ _ ⟨rfl, (2 + head / 32 % 8).toNat, by lia, by lia, by rw [show (((2 + head / 32 % 8).toNat : Nat) : Int) = 2 + head / 32 % 8 by lia]; rfl⟩⟩)
    rintro σ _ ⟨rfl, n, n1, n9, rfl⟩
    refine ⟨_, rfl, ?_⟩
    refine ⟨_, rfl, _, _, rfl, rfl, ⟨by decide, by decide⟩, _, _, rfl, rfl, (by show (0 : Int) < 8; decide), rfl, _, rfl, ?_⟩
    refine ite_st (fun σ H1 => H = H1 /\ ∃ m : Int, 0 <= m /\ m <= 8 /\ σ = [some (.ref a), some (.int 6), some (.int head), some (.int (n : Int)), some (.int m), none, none, none, none]) ?_ ⟨rfl, 6, by decide, by decide, rfl⟩ (fun key => key _ _ ⟨rfl, 8, by decide, by decide, rfl⟩)
    rintro σ _ ⟨rfl, mm, m0, m8, rfl⟩
    obtain ⟨ms, em, ml⟩ := cut_to ns mm m0 m8
    refine ⟨Nat.zero_le _, fun l hl => ?_⟩
    have s1 := Same.new (o := HO.lst []) hl
    have g1 : (upd H l (.lst [])) l = some (.lst []) := upd_same
    generalize upd H l (.lst []) = H1 at s1 g1 ⊢
    refine ⟨_, rfl, _, rfl, _, rfl, _, _, rfl, rfl, _, rfl, a, _, rfl, s1.seq hq, fun p1 hp1 => ⟨p1, rfl, ⟨_, SqL.of upd_same⟩, ?_⟩⟩
    rw [em]
    have s2 := Same.new (o := HO.lst (ms.map V.int)) hp1
    have hp1' : (upd H1 p1 (.lst (ms.map V.int))) p1 = some (.lst (ms.map V.int)) := upd_same
    have g2 := s2 _ _ g1
    have nlp : p1 ≠ l := fun z => by rw [z] at hp1; rw [g1] at hp1; cases hp1
    have s12 := s1.trans s2
    generalize upd H1 p1 (.lst (ms.map V.int)) = H2 at s2 hp1' g2 s12 ⊢
    refine for_seq (k := .l) (K := K) (a := p1) (xs := ms.map V.int) (fun i σ H' => ∃ u v r, σ = [some (.ref a), some (.int 6), some (.int head), some (.int (n : Int)), some (.int mm), some (.ref l), u, v, r] /\ Same H H' /\ H' p1 = some (.lst (ms.map V.int)) /\ ∃ xs ps, H' l = some (.lst xs) /\ Paired (TieAt H') xs ps /\ OkW n i ps)
      ⟨_, _, _, rfl, s12, hp1', [], [], g2, .nil, (fun _ z => nomatch z), (fun _ z => nomatch z), rfl⟩ (fun i σ H' _ ⟨_, _, _, _, _, z, _⟩ => SqL.of z) ?_ ?_
    · rintro i x σ H3 hx ⟨u, v, r, rfl, sm, hp3, xs, ps, hl3, ht, ow⟩
      obtain ⟨cell, ec, rfl⟩ := get_int' hx
      have il : i < 8 := by
        have := (List.getElem?_eq_some_iff.mp ec).1
        lia
      dsimp only [gName, List.set]
      refine ⟨_, rfl, _, rfl, _, _, rfl, rfl, (by show (0 : Int) < (n : Int); lia), ?_⟩
      refine ⟨_, rfl, _, rfl, _, _, rfl, rfl, ⟨by show (0 : Int) < (n : Int); lia, by show (n : Int) < 1073741824; lia⟩, _, rfl, _, _, rfl, rfl, (by show (0 : Int) < (n : Int); lia), ?_⟩
      have m1 := mod_in cell (n : Int) (by lia)
      have m2 := mod_in (cell / (n : Int)) (n : Int) (by lia)
      dsimp only
      generalize cell % (n : Int) = A1 at m1 ⊢
      generalize cell / (n : Int) % (n : Int) = B1 at m2 ⊢
      refine ⟨_, rfl, _, _, rfl, rfl, ⟨by decide, by decide⟩, _, _, rfl, rfl, (by show (0 : Int) < 4; decide), rfl, _, rfl, ?_⟩
      refine and_join (fun σ H4 => ∃ A1 B1 : Int, (0 <= A1 /\ A1 < (n : Int)) /\ (0 <= B1 /\ B1 < (n : Int)) /\ Same H3 H4 /\ σ = [some (.ref a), some (.int 6), some (.int head), some (.int (n : Int)), some (.int mm), some (.ref l), some (.int cell), some (.int A1), some (.int B1)]) ?_ ⟨A1, B1, m1, m2, Same.refl _, rfl⟩ ?_
      case refine_2 =>
        intro key
        refine ⟨_, rfl, Nat.zero_le _, fun e he => ⟨l, e, xs, rfl, rfl, SqL.of (Same.new he _ _ hl3), SqL.of upd_same, _, rfl, ?_⟩⟩
        have s4 := Same.new (o := HO.lst []) he
        have ht4 := ties_same ht s4
        have hl4 := s4 _ _ hl3
        generalize upd H3 e (.lst []) = H4 at s4 ht4 hl4 ⊢
        by_cases x0 : xs = []
        · rw [decide_eq_true x0]
          exact iteF (key _ _ ⟨A1, B1, m1, m2, s4, rfl⟩)
        · rw [decide_eq_false x0]
          obtain ⟨c, p, e1, e2, e3⟩ := last_tie ht4 x0
          have ip := ow.hb p e3
          exact iteT ⟨_, rfl, _, rfl, l, _, _, _, rfl, rfl, SqL.of hl4, e1, c, _, rfl, SqT.of e2, rfl, _, _, rfl, _, _, rfl, rfl, key _ _ ⟨p.1, p.2, ⟨ip.1, ip.2.1⟩, ⟨ip.2.2.1, ip.2.2.2⟩, s4, rfl⟩⟩
      clear m1 m2 A1 B1
      rintro σ H4 ⟨A1, B1, m1, m2, s4, rfl⟩
      have hl4 := s4 _ _ hl3
      have hp4 := s4 _ _ hp3
      have ht4 := ties_same ht s4
      have sm4 := sm.trans s4
      refine ⟨_, rfl, .inl ⟨rfl, _, SqL.of hl4⟩, _, rfl, _, rfl, _, _, rfl, _, rfl, _, rfl, _, _, rfl, by show 2 <= sizeLine; decide, fun c hc => ?_⟩
      have s5 := Same.new (o := HO.tup [.int (if B1 < A1 then B1 else A1), .int (if B1 > A1 then B1 else A1)]) hc
      have hl5 := s5 _ _ hl4
      have hp5 := s5 _ _ hp4
      have ht5 := ties_same ht4 s5
      have hc5 : (upd H4 c (.tup [.int (if B1 < A1 then B1 else A1), .int (if B1 > A1 then B1 else A1)])) c = some (.tup [.int (if B1 < A1 then B1 else A1), .int (if B1 > A1 then B1 else A1)]) := upd_same
      have sm5 := sm4.trans s5
      generalize upd H4 c (.tup [.int (if B1 < A1 then B1 else A1), .int (if B1 > A1 then B1 else A1)]) = H5 at hl5 hp5 ht5 hc5 sm5 ⊢
      have xl : xs.length = ps.length := Paired.length ht5
      have wl := ow.len
      refine ⟨l, xs, .ref c, rfl, rfl, hl5, Nat.lt_of_le_of_lt (show xs.length <= 8 by lia) (by decide), ?_⟩
      have tc : Paired (TieAt H5) (xs ++ [.ref c]) (ps ++ [(if B1 < A1 then B1 else A1, if B1 > A1 then B1 else A1)]) := L2.Paired.snoc ht5 ⟨c, rfl, hc5⟩
      refine ⟨_, _, _, rfl, put_fresh sm5 hl, by rw [upd_ne nlp]; exact hp5, xs ++ [.ref c], _, upd_same, ties_put tc hl5, fun p hp => ?_, fun p hp => ?_, by rw [List.length_append, wl, List.length_singleton]⟩
      · rcases List.mem_append.mp hp with hp | hp
        · exact ow.hb p hp
        · rw [List.mem_singleton.mp hp]
          unfold InN
          dsimp only
          split <;> split <;> lia
      · rcases List.mem_append.mp hp with hp | hp
        · exact ow.nm p hp
        · rw [List.mem_singleton.mp hp]
          dsimp only
          split <;> split <;> lia
    · rintro σ H3 ⟨u, v, r, rfl, sm, hp3, xs, ps, hl3, ht, ow⟩
      rw [List.length_map] at ow
      have wl := ow.len
      refine ⟨_, rfl, _, rfl, l, xs, rfl, .inl ⟨SqL.of hl3, fun d hd => ⟨by show 2 <= sizeLine; decide, fun c hc => ?_⟩⟩⟩
      have s4 := Same.new (o := HO.tup xs) hd
      have s5 := Same.new (o := HO.tup [.int (n : Int), .ref d]) hc
      exact q (.ref c) n ps _ (sm.trans (s4.trans s5)) ⟨c, d, xs, rfl, upd_same, s5 _ _ upd_same, ties_same ht (s4.trans s5)⟩ (by rw [wl]; exact ow) n1 n9 (by lia)
end
end My
namespace My
open PySem L2 PyProof.Rows
theorem tieN_get {ps : List (Int × Int)} {k : Int} (k0 : 0 <= k) (kl : k < ps.length) : ps[k.toNat]? = some (tieN ps k) := by
  have h : k.toNat < ps.length := by lia
  unfold tieN
  rw [List.getD_eq_getElem?_getD, List.getElem?_eq_getElem h]
  rfl
theorem at_set {l : List Int} {i j v : Int} (i0 : 0 <= i) (il : i < l.length) (j0 : 0 <= j) : at0 (l.set i.toNat v) j = if j = i then v else at0 l j := by
  unfold at0
  rw [List.getD_eq_getElem?_getD, List.getElem?_set]
  by_cases h : j = i
  · rw [if_pos (by rw [h]), if_pos (by lia), if_pos h]
    rfl
  · rw [if_neg (by lia), if_neg h, List.getD_eq_getElem?_getD]
theorem plc_at {n u v x : Int} (n0 : 0 <= n) (hu : 0 <= u /\ u < n) (hv : 0 <= v /\ v < n) (uv : u ≠ v) (hx : 0 <= x /\ x < n) : at0 (plc n u v) x = tau u v x := by
  unfold plc tau
  rw [at_set hv.1 (by rw [List.length_set, ups_len]; lia) hx.1, at_set hu.1 (by rw [ups_len]; lia) hx.1, at_ups hx.1 hx.2]
  by_cases h1 : x = u
  · rw [if_neg (by lia), if_pos h1, if_pos h1]
  · by_cases h2 : x = v
    · rw [if_pos h2, if_neg h1, if_pos h2]
    · rw [if_neg h2, if_neg h1, if_neg h1, if_neg h2]
def tauT (u v : Int) (p : Int × Int) : Int × Int := norm (tau u v p.1, tau u v p.2)
theorem ren_tau {n u v : Int} (n0 : 0 <= n) (hu : 0 <= u /\ u < n) (hv : 0 <= v /\ v < n) (uv : u ≠ v) {p : Int × Int} (hp : InN n p) : renT (plc n u v) p = tauT u v p := by
  unfold renT tauT
  rw [plc_at n0 hu hv uv ⟨hp.1, hp.2.1⟩, plc_at n0 hu hv uv ⟨hp.2.2.1, hp.2.2.2⟩]
theorem tau_comm {u v : Int} (x : Int) : tau v u x = tau u v x := by
  unfold tau
  split <;> (try split) <;> lia
theorem tau_vu (u v x : Int) : tau v u (tau u v x) = x := by rw [tau_comm, tau_tau]
theorem norm_in {n : Int} {p : Int × Int} (h : InN n p) : InN n (norm p) := by
  unfold InN at h ⊢
  rcases norm_cases p with ⟨a, b⟩ | ⟨a, b⟩ <;> rw [a, b] <;> lia
theorem tauT_in {n u v : Int} (hu : 0 <= u /\ u < n) (hv : 0 <= v /\ v < n) {p : Int × Int} (hp : InN n p) : InN n (tauT u v p) := by
  refine norm_in ?_
  have a := tau_in hu hv ⟨hp.1, hp.2.1⟩
  have b := tau_in hu hv ⟨hp.2.2.1, hp.2.2.2⟩
  exact ⟨a.1, a.2, b.1, b.2⟩
theorem tauT_back {u v : Int} {p : Int × Int} (h : p.1 <= p.2) : tauT v u (tauT u v p) = p := by
  unfold tauT
  rcases norm_cases (tau u v p.1, tau u v p.2) with ⟨a, b⟩ | ⟨a, b⟩
  · rw [a, b]
    show norm (tau v u (tau u v p.1), tau v u (tau u v p.2)) = p
    rw [tau_vu, tau_vu]
    exact norm_id h
  · rw [a, b]
    show norm (tau v u (tau u v p.2), tau v u (tau u v p.1)) = p
    rw [tau_vu, tau_vu]
    unfold norm
    dsimp only
    by_cases e : p.2 <= p.1
    · rw [if_pos e]
      have : p.1 = p.2 := by lia
      rw [Prod.ext_iff]
      exact ⟨this.symm, this⟩
    · rw [if_neg e]
section
variable {n u v : Int} {ps : List (Int × Int)} {ks : List Int}
theorem turn_len : (turnP n u v ps ks).length = ps.length := by unfold turnP; rw [List.length_map, ups_len]; lia
theorem turn_at (n0 : 0 <= n) (hb : ∀ p ∈ ps, InN n p) (hu : 0 <= u /\ u < n) (hv : 0 <= v /\ v < n) (uv : u ≠ v) {k : Int} (k0 : 0 <= k) (kl : k < ps.length) : tieN (turnP n u v ps ks) k = if k ∈ ks then tauT u v (tieN ps k) else tieN ps k := by
  have e : (ups (ps.length : Int))[k.toNat]? = some k := by rw [ups_get (by lia)]; congr 1; lia
  have ip := tieN_in hb k0 kl
  have : (turnP n u v ps ks)[k.toNat]? = some (if k ∈ ks then tauT u v (tieN ps k) else tieN ps k) := by
    unfold turnP
    rw [List.getElem?_map, e]
    show some (if k ∈ ks then renT (plc n u v) (tieN ps k) else tieN ps k) = some _
    rw [ren_tau n0 hu hv uv ip]
  unfold tieN at this ⊢
  rw [List.getD_eq_getElem?_getD, this]
  rfl
theorem mem_tie {qs : List (Int × Int)} {p : Int × Int} (h : p ∈ qs) : ∃ k : Int, 0 <= k /\ k < qs.length /\ tieN qs k = p := by
  obtain ⟨i, hi, e⟩ := List.getElem_of_mem h
  refine ⟨(i : Int), by lia, by lia, ?_⟩
  unfold tieN
  rw [Int.toNat_natCast, List.getD_eq_getElem?_getD, List.getElem?_eq_getElem hi, e]
  rfl
theorem turn_in (n0 : 0 <= n) (hb : ∀ p ∈ ps, InN n p) (hu : 0 <= u /\ u < n) (hv : 0 <= v /\ v < n) (uv : u ≠ v) : ∀ p ∈ turnP n u v ps ks, InN n p := fun p hp => by
  obtain ⟨k, k0, kl, e⟩ := mem_tie hp
  rw [turn_len] at kl
  rw [turn_at n0 hb hu hv uv k0 kl] at e
  rw [<- e]
  have := tieN_in hb k0 kl
  split
  · exact tauT_in hu hv this
  · exact this
theorem turn_nm (n0 : 0 <= n) (hb : ∀ p ∈ ps, InN n p) (hu : 0 <= u /\ u < n) (hv : 0 <= v /\ v < n) (uv : u ≠ v) (nm : NrmP ps) : NrmP (turnP n u v ps ks) := fun p hp => by
  obtain ⟨k, k0, kl, e⟩ := mem_tie hp
  rw [turn_len] at kl
  rw [turn_at n0 hb hu hv uv k0 kl] at e
  rw [<- e]
  split
  · exact norm_le _
  · exact nm _ (List.mem_of_getElem? (tieN_get k0 kl))
theorem turn_back (n0 : 0 <= n) (hb : ∀ p ∈ ps, InN n p) (hu : 0 <= u /\ u < n) (hv : 0 <= v /\ v < n) (uv : u ≠ v) (nm : NrmP ps) : turnP n v u (turnP n u v ps ks) ks = ps := by
  have hb' := turn_in (ks := ks) n0 hb hu hv uv
  refine List.ext_getElem? fun i => ?_
  by_cases h : i < ps.length
  · have h2 : i < (turnP n v u (turnP n u v ps ks) ks).length := by rw [turn_len, turn_len]; exact h
    have e1 := tieN_get (ps := turnP n v u (turnP n u v ps ks) ks) (k := (i : Int)) (by lia) (by lia)
    have e2 := tieN_get (ps := ps) (k := (i : Int)) (by lia) (by lia)
    rw [Int.toNat_natCast] at e1 e2
    rw [e1, e2, turn_at n0 hb' hv hu (Ne.symm uv) (by lia) (by rw [turn_len]; lia), turn_at n0 hb hu hv uv (by lia) (by lia)]
    by_cases m : (i : Int) ∈ ks
    · rw [if_pos m, if_pos m, tauT_back (nm _ (List.mem_of_getElem? e2))]
    · rw [if_neg m, if_neg m]
  · rw [List.getElem?_eq_none (by rw [turn_len, turn_len]; lia), List.getElem?_eq_none (by lia)]
theorem endB_iff {x : Int} : endB ps ks x = true ↔ ∃ k ∈ ks, x = (tieN ps k).1 \/ x = (tieN ps k).2 := by
  unfold endB
  rw [List.any_map, List.any_eq_true]
  constructor
  · rintro ⟨k, hk, h⟩
    have h : decide (x ∈ [(tieN ps k).1, (tieN ps k).2]) = true := h
    have := of_decide_eq_true h
    rw [List.mem_cons, List.mem_singleton] at this
    exact ⟨k, hk, this⟩
  · rintro ⟨k, hk, h⟩
    refine ⟨k, hk, ?_⟩
    show decide (x ∈ [(tieN ps k).1, (tieN ps k).2]) = true
    refine decide_eq_true ?_
    rw [List.mem_cons, List.mem_singleton]
    exact h
theorem mem_rest {m : Nat} {k : Int} : k ∈ restP m ks ↔ (0 <= k /\ k < (m : Int)) /\ ¬ k ∈ ks := by
  unfold restP
  rw [List.mem_filter, mem_ups, Bool.not_eq_true', decide_eq_false_iff_not]
theorem tw_of (n0 : 0 <= n) (hb : ∀ p ∈ ps, InN n p) (hu : 0 <= u /\ u < n) (hv : 0 <= v /\ v < n) (uv : u ≠ v) (hk : Ks ps.length ks) (ap : ApB n u v ps ks) : Tw n u v (fun k => k ∈ ks) ps (turnP n u v ps ks) where
  len := turn_len
  hb := hb
  hb' := turn_in n0 hb hu hv uv
  uu := hu
  vv := hv
  inn k k0 kl hk := by
    rw [turn_at n0 hb hu hv uv k0 kl, if_pos hk]
    unfold tauT
    rcases norm_cases (tau u v (tieN ps k).1, tau u v (tieN ps k).2) with ⟨a, b⟩ | ⟨a, b⟩
    · left; rw [a, b]; exact ⟨rfl, rfl⟩
    · right; rw [a, b]; exact ⟨rfl, rfl⟩
  out k k0 kl hk := by rw [turn_at n0 hb hu hv uv k0 kl, if_neg hk]
  apart k j k0 kl j0 jl hk hj x xk xj := by
    refine Classical.byContradiction fun z => ?_
    have x1 : x ≠ u := fun y => z (.inl y)
    have x2 : x ≠ v := fun y => z (.inr y)
    obtain ⟨a1, a2, b1, b2⟩ := tieN_in hb k0 kl
    refine ap x ?_ ?_ x1 x2 (endB_iff.mpr ⟨k, hk, xk⟩) (endB_iff.mpr ⟨j, mem_rest.mpr ⟨⟨j0, jl⟩, hj⟩, xj⟩)
    · rcases xk with e | e <;> rw [e] <;> assumption
    · rcases xk with e | e <;> rw [e] <;> assumption
theorem ap_back (n0 : 0 <= n) (hb : ∀ p ∈ ps, InN n p) (hu : 0 <= u /\ u < n) (hv : 0 <= v /\ v < n) (uv : u ≠ v) (hk : Ks ps.length ks) (ap : ApB n u v ps ks) : ApB n v u (turnP n u v ps ks) ks := by
  intro x x0 xn x1 x2 h1 h2
  have T := (tw_of n0 hb hu hv uv hk ap).symm
  obtain ⟨k, mk, ek⟩ := endB_iff.mp h1
  obtain ⟨j, mj, ej⟩ := endB_iff.mp h2
  rw [turn_len] at mj
  obtain ⟨⟨j0, jl⟩, nj⟩ := mem_rest.mp mj
  obtain ⟨k0, kl⟩ := hk k mk
  rcases T.apart k j k0 (by rw [turn_len]; exact kl) j0 (by rw [turn_len]; exact jl) mk nj x ek ej with e | e
  · exact x2 e
  · exact x1 e
end
theorem mk_dc {n : Nat} {ps : List (Int × Int)} (hb : ∀ p ∈ ps, InN n p) : ∀ (ks : List Int) (st : List Int × Int), Ks ps.length ks -> st.1.length = n -> st.2 + (dcount st.1 : Int) = n -> (rkF ps st ks).2 + (dcount (rkF ps st ks).1 : Int) = n
  | [], st, _, _, h => h
  | k :: ks, st, hk, hl, h => by
    obtain ⟨k0, kl⟩ := hk k List.mem_cons_self
    obtain ⟨a1, a2, b1, b2⟩ := tieN_in hb k0 kl
    refine mk_dc hb ks (stepM st (tieN ps k)) (fun j hj => hk j (List.mem_cons_of_mem _ hj)) (by rw [stepM_len]; exact hl) ?_
    unfold stepM
    split
    · exact h
    · next ne =>
      have := dcount_merge (u := at0 st.1 (tieN ps k).1) (v := at0 st.1 (tieN ps k).2) ne (at_mem a1 (by lia)) (at_mem b1 (by lia))
      dsimp only
      lia
theorem mk_c {n : Nat} {ps : List (Int × Int)} {ks : List Int} (n1 : 1 <= n) (n9 : n <= 9) (hb : ∀ p ∈ ps, InN n p) (hk : Ks ps.length ks) : (dcount (rkF ps (ups n, 0) ks).1 : Int) = cN n ps ks := by
  have h1 := mk_dc hb ks (ups n, 0) hk (by rw [ups_len]; lia) (by rw [ups_dc (by lia) (by lia)]; lia)
  have h2 := rank_eq (n := n) (by lia) (by lia) hb hk
  rw [hdF_norm ks _ hk] at h2
  unfold rk at h2
  unfold cN
  lia
theorem mk_keep {ps : List (Int × Int)} : ∀ (ks : List Int) (st : List Int × Int) {a b : Int}, 0 <= a -> a < st.1.length -> 0 <= b -> b < st.1.length -> at0 st.1 a = at0 st.1 b -> at0 (rkF ps st ks).1 a = at0 (rkF ps st ks).1 b
  | [], st, a, b, _, _, _, _, e => e
  | k :: ks, st, a, b, a0, al, b0, bl, e => by
    refine mk_keep ks (stepM st (tieN ps k)) a0 (by rw [stepM_len]; exact al) b0 (by rw [stepM_len]; exact bl) ?_
    unfold stepM
    split
    · exact e
    · dsimp only
      rw [at_map a0 al, at_map b0 bl, e]
theorem mk_join {n : Nat} {ps : List (Int × Int)} (hb : ∀ p ∈ ps, InN n p) : ∀ (ks : List Int) (st : List Int × Int), Ks ps.length ks -> st.1.length = n -> ∀ k ∈ ks, at0 (rkF ps st ks).1 (tieN ps k).1 = at0 (rkF ps st ks).1 (tieN ps k).2
  | [], st, _, _, k, hk => nomatch hk
  | j :: ks, st, hk, hl, k, m => by
    have hk' : Ks ps.length ks := fun j hj => hk j (List.mem_cons_of_mem _ hj)
    have hl' : (stepM st (tieN ps j)).1.length = n := by rw [stepM_len]; exact hl
    rcases List.mem_cons.mp m with rfl | m
    · obtain ⟨k0, kl⟩ := hk k List.mem_cons_self
      obtain ⟨a1, a2, b1, b2⟩ := tieN_in hb k0 kl
      refine mk_keep ks (stepM st (tieN ps k)) a1 (by lia) b1 (by lia) ?_
      unfold stepM
      split
      · assumption
      · dsimp only
        rw [at_map a1 (by lia), at_map b1 (by lia), if_pos rfl]
        split <;> lia
    · exact mk_join hb ks _ hk' hl' k m
theorem mk_in {n : Nat} {ps : List (Int × Int)} (hb : ∀ p ∈ ps, InN n p) : ∀ (ks : List Int) (st : List Int × Int), Ks ps.length ks -> st.1.length = n -> (∀ z ∈ st.1, 0 <= z /\ z < (n : Int)) -> ∀ z ∈ (rkF ps st ks).1, 0 <= z /\ z < (n : Int)
  | [], st, _, _, h => h
  | k :: ks, st, hk, hl, h => by
    obtain ⟨k0, kl⟩ := hk k List.mem_cons_self
    obtain ⟨a1, a2, b1, b2⟩ := tieN_in hb k0 kl
    refine mk_in hb ks (stepM st (tieN ps k)) (fun j hj => hk j (List.mem_cons_of_mem _ hj)) (by rw [stepM_len]; exact hl) ?_
    unfold stepM
    split
    · exact h
    · intro z hz
      obtain ⟨y, hy, rfl⟩ := List.mem_map.mp hz
      split
      · exact h _ (at_mem a1 (by lia))
      · exact h _ hy
def insP (ps : List (Int × Int)) (u v : Int) : List Int := (ups ps.length).filter fun k => !decide (u ∈ [(tieN ps k).1, (tieN ps k).2]) && !decide (v ∈ [(tieN ps k).1, (tieN ps k).2])
def othP (u v : Int) (t : Int × Int) : List Int := [t.1, t.2].filter fun x => !decide (x = u) && !decide (x = v)
def bvK (ms : List Int) (load u v : Int) (t : Int × Int) (k : Int) : Int := match othP u v t with
  | [] => Builtin.bitAnd (load / 2 ^ (9 + k).toNat) 1
  | x :: _ => Builtin.bitAnd (load / 2 ^ (at0 ms x).toNat) 1
def mkW (n : Int) (ps : List (Int × Int)) (ks : List Int) : List Int := (rkF ps (ups n, 0) ks).1
def apP (n : Int) (ps : List (Int × Int)) (u v load : Int) : List Int := (ups ps.length).filter fun k => decide (bvK (mkW n ps (insP ps u v)) load u v (tieN ps k) k = 1)
theorem ins_ks (ps : List (Int × Int)) (u v : Int) : Ks ps.length (insP ps u v) := fun k hk => mem_ups.mp (List.mem_filter.mp hk).1
theorem ap_ks (n : Int) (ps : List (Int × Int)) (u v load : Int) : Ks ps.length (apP n ps u v load) := fun k hk => mem_ups.mp (List.mem_filter.mp hk).1
theorem ap_len (n : Int) (ps : List (Int × Int)) (u v load : Int) : (apP n ps u v load).length <= ps.length := by
  have := List.length_filter_le (fun k => decide (bvK (mkW n ps (insP ps u v)) load u v (tieN ps k) k = 1)) (ups ps.length)
  rw [ups_len] at this
  unfold apP
  lia
theorem ap_nd (n : Int) (ps : List (Int × Int)) (u v load : Int) : (apP n ps u v load).Nodup := ((ups_up _).filter _).imp fun h => by lia
theorem mem_oth {u v x : Int} {t : Int × Int} : x ∈ othP u v t ↔ (x = t.1 \/ x = t.2) /\ x ≠ u /\ x ≠ v := by
  unfold othP
  rw [List.mem_filter, List.mem_cons, List.mem_singleton, Bool.and_eq_true, Bool.not_eq_true', Bool.not_eq_true', decide_eq_false_iff_not, decide_eq_false_iff_not]
theorem bv_at {n : Nat} {ps : List (Int × Int)} {u v load x k : Int} (hb : ∀ p ∈ ps, InN n p) (k0 : 0 <= k) (kl : k < ps.length) (hx : x = (tieN ps k).1 \/ x = (tieN ps k).2) (x1 : x ≠ u) (x2 : x ≠ v) : bvK (mkW n ps (insP ps u v)) load u v (tieN ps k) k = Builtin.bitAnd (load / 2 ^ (at0 (mkW n ps (insP ps u v)) x).toNat) 1 := by
  have mx : x ∈ othP u v (tieN ps k) := mem_oth.mpr ⟨hx, x1, x2⟩
  unfold bvK
  cases e : othP u v (tieN ps k) with
  | nil => rw [e] at mx; cases mx
  | cons y l =>
    dsimp only
    have my : y ∈ othP u v (tieN ps k) := by rw [e]; exact List.mem_cons_self
    obtain ⟨hy, y1, y2⟩ := mem_oth.mp my
    have key : at0 (mkW n ps (insP ps u v)) y = at0 (mkW n ps (insP ps u v)) x := by
      by_cases xy : y = x
      · rw [xy]
      · have both : ((tieN ps k).1 ≠ u /\ (tieN ps k).1 ≠ v) /\ (tieN ps k).2 ≠ u /\ (tieN ps k).2 ≠ v := by
          rcases hx with hx | hx <;> rcases hy with hy | hy
          · exact absurd (hy.trans hx.symm) xy
          · exact ⟨⟨by rw [<- hx]; exact x1, by rw [<- hx]; exact x2⟩, by rw [<- hy]; exact y1, by rw [<- hy]; exact y2⟩
          · exact ⟨⟨by rw [<- hy]; exact y1, by rw [<- hy]; exact y2⟩, by rw [<- hx]; exact x1, by rw [<- hx]; exact x2⟩
          · exact absurd (hy.trans hx.symm) xy
        have mi : k ∈ insP ps u v := by
          unfold insP
          refine List.mem_filter.mpr ⟨mem_ups.mpr ⟨k0, kl⟩, ?_⟩
          rw [Bool.and_eq_true, Bool.not_eq_true', Bool.not_eq_true', decide_eq_false_iff_not, decide_eq_false_iff_not, List.mem_cons, List.mem_singleton, List.mem_cons, List.mem_singleton]
          exact ⟨fun z => z.elim (fun z => both.1.1 z.symm) (fun z => both.2.1 z.symm), fun z => z.elim (fun z => both.1.2 z.symm) (fun z => both.2.2 z.symm)⟩
        have j := mk_join hb (insP ps u v) (ups n, 0) (ins_ks ps u v) (by rw [ups_len]; lia) k mi
        unfold mkW
        rcases hx with hx | hx <;> rcases hy with hy | hy
        · rw [hx, hy]
        · rw [hx, hy]; exact j.symm
        · rw [hx, hy]; exact j
        · rw [hx, hy]
    rw [key]
theorem ap_ok {n : Nat} {ps : List (Int × Int)} {u v load : Int} (hb : ∀ p ∈ ps, InN n p) : ApB n u v ps (apP n ps u v load) := by
  intro x x0 xn x1 x2 h1 h2
  obtain ⟨k, mk, ek⟩ := endB_iff.mp h1
  obtain ⟨j, mj, ej⟩ := endB_iff.mp h2
  obtain ⟨⟨j0, jl⟩, nj⟩ := mem_rest.mp mj
  obtain ⟨k0, kl⟩ := ap_ks _ _ _ _ _ k mk
  have b1 := of_decide_eq_true (List.mem_filter.mp mk).2
  rw [bv_at hb k0 kl ek x1 x2] at b1
  refine nj (List.mem_filter.mpr ⟨mem_ups.mpr ⟨j0, jl⟩, decide_eq_true ?_⟩)
  rw [bv_at hb j0 jl ej x1 x2]
  exact b1
theorem turn_snoc {n u v : Int} {ps : List (Int × Int)} {ks : List Int} {k : Int} (k0 : 0 <= k) (kl : k < ps.length) : turnP n u v ps (ks ++ [k]) = (turnP n u v ps ks).set k.toNat (renT (plc n u v) (tieN ps k)) := by
  refine List.ext_getElem? fun i => ?_
  rw [List.getElem?_set]
  by_cases h : i < ps.length
  · have e : (ups (ps.length : Int))[i]? = some (i : Int) := ups_get h
    have l : ∀ ks', (turnP n u v ps ks')[i]? = some (if (i : Int) ∈ ks' then renT (plc n u v) (tieN ps i) else tieN ps i) := fun ks' => by
      unfold turnP
      rw [List.getElem?_map, e]
      rfl
    rw [l]
    by_cases c : k.toNat = i
    · have ki : (i : Int) = k := by lia
      rw [if_pos c, if_pos (show (i : Int) ∈ ks ++ [k] by rw [ki]; exact List.mem_append_right _ List.mem_cons_self), if_pos (by rw [turn_len]; lia), ki]
    · have ki : ¬ (i : Int) = k := by lia
      rw [if_neg c, l]
      congr 1
      by_cases m : (i : Int) ∈ ks
      · rw [if_pos m, if_pos (List.mem_append_left _ m)]
      · rw [if_neg m, if_neg (fun z => by rcases List.mem_append.mp z with z | z; exact m z; exact ki (List.mem_singleton.mp z))]
  · rw [List.getElem?_eq_none (by rw [turn_len]; lia), if_neg (by lia), List.getElem?_eq_none (by rw [turn_len]; lia)]
theorem turn_nil {n u v : Int} {ps : List (Int × Int)} : turnP n u v ps [] = ps := by
  refine List.ext_getElem? fun i => ?_
  by_cases h : i < ps.length
  · have e : (ups (ps.length : Int))[i]? = some (i : Int) := ups_get h
    have e2 := tieN_get (ps := ps) (k := (i : Int)) (by lia) (by lia)
    rw [Int.toNat_natCast] at e2
    unfold turnP
    rw [List.getElem?_map, e, e2]
    rfl
  · rw [List.getElem?_eq_none (by rw [turn_len]; lia), List.getElem?_eq_none (by lia)]
theorem turn_old {n u v : Int} {ps : List (Int × Int)} {ks : List Int} {k : Int} (k0 : 0 <= k) (kl : k < ps.length) (nk : ¬ k ∈ ks) : tieN (turnP n u v ps ks) k = tieN ps k := by
  have e : (ups (ps.length : Int))[k.toNat]? = some k := by rw [ups_get (by lia)]; congr 1; lia
  have : (turnP n u v ps ks)[k.toNat]? = some (tieN ps k) := by
    unfold turnP
    rw [List.getElem?_map, e]
    show some _ = some _
    show some (if k ∈ ks then renT (plc n u v) (tieN ps k) else tieN ps k) = _
    rw [if_neg nk]
  unfold tieN at this ⊢
  rw [List.getD_eq_getElem?_getD, this]
  rfl
theorem pair_set {α β : Type} {F : α -> β -> Prop} : ∀ {l₁ : List α} {l₂ : List β} (i : Nat) {a : α} {b : β}, Paired F l₁ l₂ -> F a b -> Paired F (l₁.set i a) (l₂.set i b)
  | [], [], _, _, _, .nil, _ => .nil
  | _ :: _, _ :: _, 0, _, _, .cons _ t, h => .cons h t
  | _ :: _, _ :: _, i + 1, _, _, .cons x t, h => .cons x (pair_set i t h)
end My
namespace My
open PySem L2
def spMarks (K : W.Frag) : Sp := fun vs H Q _ => ∃ (kd : Kd) (wv : V) (pk : Addr) (n : Int) (ps : List (Int × Int)) (ks : List Int), vs = [wv, .ref pk] /\ WebAt H wv n ps /\ WebOk n ps /\ SqK kd K H pk (ks.map V.int) /\ Ks ps.length ks /\ ∀ l H', Same H H' -> H' l = some (.lst ((mkW n ps ks).map V.int)) -> Q (.ref l) H'
def spLRank (K : W.Frag) : Sp := fun vs H Q _ => ∃ (wv : V) (pk : Addr) (n : Nat) (ps : List (Int × Int)) (ks : List Int), vs = [wv, .ref pk] /\ WebAt H wv n ps /\ WebOk n ps /\ SqT K H pk (ks.map V.int) /\ Ks ps.length ks /\ ∀ H', Same H H' -> Q (.int ((n : Int) - cN n ps ks)) H'
def spPick : Sp := fun vs H Q _ => ∃ (b : Int) (m : Nat), vs = [.int b, .int m] /\ m <= 8 /\ ∀ t H', Same H H' -> H' t = some (.tup ((pkB b m).map V.int)) -> Q (.ref t) H'
section
variable {P : Program} {w : World} {K : W.Frag} {mg : Str -> Option Value} {base : Heap}
theorem scMarks : FnScope ["_law_web_here", "_law_pick_here", "_law_marks_here", "_law_k", "_law_one", "_law_two"] ["_law_web_here", "_law_pick_here"] (defScope sMarks) := ⟨rfl, rfl, rfl, by decide +kernel, rfl, by decide +kernel, by decide +kernel⟩
theorem nd4 : (["_law_mark", "_law_one", "_law_two"] : List Str).Nodup := by decide +kernel
theorem d_marks (T : Txt K mg) (S : Src K mg "_law_marks" sMarks ["_law_web_here", "_law_pick_here"]) : Def P w K mg base 1 "_law_marks" ["_law_web_here", "_law_pick_here"] (spMarks K) := by
  refine S.def scMarks (fun vs H Q E h => ?_) (fun f cdv A outer s H vs Q E hr h => ?_)
  · obtain ⟨_, _, _, _, _, _, rfl, _⟩ := h; rfl
  · obtain ⟨kd, wv, pk, n, ps, ks, rfl, W, ⟨⟨n1, n9⟩, hb, h8⟩, hk, hks, q⟩ := h
    obtain ⟨c, d, xs, rfl, hc, hd, ht⟩ := W.ex
    obtain ⟨m, rfl⟩ := Int.eq_ofNat_of_zero_le (show 0 <= n by lia)
    refine ⟨_, pss_cons (ps_set (i := 2) scMarks.nd rfl (Or.inl rfl) (pe_callTy (call_list_rng rfl) rfl T.list boot_list' (pa_cons (pe_callTy call_range1 rfl T.range boot_range' (pa_cons (pe_ix (ix_tupK K) (pv 0) pe_int (fun _ _ => rfl)) pa_nil)) pa_nil)))
      (pss_cons (ps_for PassesOwn.never rfl (pi_seqK K kd (pv 1)) (pg_name (i := 3) scMarks.nd rfl (Or.inl rfl))
        (pss_cons (ps_set (i := 4) scMarks.nd rfl (Or.inr rfl) (pe_ix (ix_listK K) (pv 2) (pe_ix (ix_tupK K) (pe_ix (ix_tupK K) (pe_ix (ix_tupK K) (pv 0) pe_int (fun _ _ => rfl)) (pv 3) (fun _ _ => rfl)) pe_int (fun _ _ => rfl)) (fun _ _ => rfl)))
        (pss_cons (ps_set (i := 5) scMarks.nd rfl (Or.inr rfl) (pe_ix (ix_listK K) (pv 2) (pe_ix (ix_tupK K) (pe_ix (ix_tupK K) (pe_ix (ix_tupK K) (pv 0) pe_int (fun _ _ => rfl)) (pv 3) (fun _ _ => rfl)) pe_int (fun _ _ => rfl)) (fun _ _ => rfl)))
        (pss_one (ps_if (pt_cmpR op_ne (pv 4) (pv 5) (nomark _))
          (pss_one (ps_setComp (i := 2) scMarks.nd rfl (Or.inl rfl) (N' := ["_law_mark", "_law_one", "_law_two"]) (fr := [none, some 4, some 5]) (compOk_of (by rfl)) rfl (pi_seqK K .l (pv 2))
            (fun _ _ _ _ => pg_name (i := 0) nd4 rfl (Or.inl rfl) (Or.inr rfl)) (fun _ _ _ _ => pifs_nil)
            (fun _ _ _ _ => pe_ix (r := rIxL K) (ix_listK K) (pe_lst (pa_cons (pv 0) (pa_cons (pv 1) pa_nil))) (pe_callTy call_int1 rfl T.int boot_int' (pa_cons (pe_cmpR op_eq (pv 0) (pv 2) (nomark _)) pa_nil)) (fun _ _ => rfl)))) pss_nil)))))
      (pss_one (ps_ret (pv 2)))), ?_⟩
    have i0 : atI ([.int m, .ref d] : List V) 0 = some (.int m) := atI_nat (j := 0) rfl
    have i1 : atI ([.int m, .ref d] : List V) 1 = some (.ref d) := atI_nat (j := 1) rfl
    refine ⟨_, rfl, c, _, _, _, rfl, rfl, SqT.of hc, i0, _, rfl, fun p hp => ⟨p, m, rfl, upd_same, by lia, fun l hl => ?_⟩⟩
    have s1 := (Same.new (o := HO.rng 0 m) hp).trans (Same.new (o := HO.lst (upN m)) hl)
    have hl1 : (upd (upd H p (.rng 0 m)) l (.lst (upN m))) l = some (.lst ((ups m).map V.int)) := by rw [upd_same, upN_ups]
    generalize upd (upd H p (.rng 0 m)) l (.lst (upN m)) = H1 at s1 hl1 ⊢
    refine ⟨_, rfl, pk, rfl, ⟨_, s1.seqK hk⟩, for_seqK (k := kd) (K := K) (a := pk) (xs := ks.map V.int) (fun i σ H' => ∃ l u v t, σ = [some (.ref c), some (.ref pk), some (.ref l), u, v, t] /\ Same H H' /\ H' l = some (.lst ((rkF ps (ups m, 0) (ks.take i)).1.map V.int))) ⟨l, _, _, _, rfl, s1, hl1⟩ (fun i σ H' _ ⟨_, _, _, _, _, z, _⟩ => z.seqK hk) ?_ ?_⟩
    · rintro i x σ H' hx ⟨l, u, v, t, rfl, sm, hl⟩
      obtain ⟨k, ek, rfl⟩ := get_int' hx
      obtain ⟨k0, kl⟩ := hks k (List.mem_of_getElem? ek)
      obtain ⟨tc, et, htc⟩ := at_tie ht k0 kl
      obtain ⟨b1, b2, b3, b4⟩ := tieN_in hb k0 kl
      generalize hst : rkF ps (ups m, 0) (ks.take i) = st at hl
      have msl : st.1.length = m := by rw [<- hst, rkF_len, ups_len]; simp
      have t0 : atI ([.int (tieN ps k).1, .int (tieN ps k).2] : List V) 0 = some (.int (tieN ps k).1) := atI_nat (j := 0) rfl
      have t1 : atI ([.int (tieN ps k).1, .int (tieN ps k).2] : List V) 1 = some (.int (tieN ps k).2) := atI_nat (j := 1) rfl
      have a0 := at_int (l := st.1) (i := (tieN ps k).1) b1 (by lia)
      have a1 := at_int (l := st.1) (i := (tieN ps k).2) b3 (by lia)
      have htc' := sm _ _ htc
      have hc' := sm _ _ hc
      have hd' := sm _ _ hd
      dsimp only [gName, List.set]
      refine ⟨_, rfl, _, rfl, c, _, _, _, rfl, rfl, SqT.of hc', i1, _, rfl, d, _, _, _, rfl, rfl, SqT.of hd', et, tc, _, _, _, rfl, rfl, SqT.of htc', t0, l, _, _, _, rfl, rfl, SqL.of hl, a0, ?_⟩
      refine ⟨_, rfl, _, rfl, c, _, _, _, rfl, rfl, SqT.of hc', i1, _, rfl, d, _, _, _, rfl, rfl, SqT.of hd', et, tc, _, _, _, rfl, rfl, SqT.of htc', t1, l, _, _, _, rfl, rfl, SqL.of hl, a1, ?_⟩
      refine ⟨_, rfl, _, rfl, rfl, _, rfl, ?_⟩
      by_cases he : at0 st.1 (tieN ps k).1 = at0 st.1 (tieN ps k).2
      · rw [he]
        refine iteNS rfl ?_
        have e2 : rkF ps (ups m, 0) (ks.take (i + 1)) = st := by
          rw [take_succ_of ek, rkF_snoc, hst]
          unfold stepM
          exact if_pos he
        exact ⟨l, some (.int k), some (.int (at0 st.1 (tieN ps k).2)), some (.int (at0 st.1 (tieN ps k).2)), rfl, sm, by rw [e2]; exact hl⟩
      · rw [decide_eq_false (show ¬ V.int (at0 st.1 (tieN ps k).1) = V.int (at0 st.1 (tieN ps k).2) from fun z => he (by injection z))]
        refine iteT ?_
        have e2 : rkF ps (ups m, 0) (ks.take (i + 1)) = (st.1.map fun z => if z = at0 st.1 (tieN ps k).2 then at0 st.1 (tieN ps k).1 else z, st.2 + 1) := by
          rw [take_succ_of ek, rkF_snoc, hst]
          unfold stepM
          exact if_neg he
        generalize at0 st.1 (tieN ps k).1 = one at e2 ⊢
        generalize at0 st.1 (tieN ps k).2 = oth at e2 ⊢
        refine ⟨_, rfl, l, rfl, ⟨_, SqL.of hl⟩, comp_seq (k := .l) (a := l) (xs := st.1.map V.int) (fun σ => ∃ v, σ = [v, some (.int one), some (.int oth)]) (fun j ys H2 => Same H' H2 /\ ys = (st.1.take j).map fun h => V.int (if h = oth then one else h)) ⟨_, rfl⟩ ⟨Same.refl _, rfl⟩ (by rw [List.length_map]; exact ten_line (by lia)) (fun j ys H2 _ z => SqL.of (z.1 _ _ hl)) ?_ ?_⟩
        · rintro j x ys σ H2 N hx ⟨u, rfl⟩ ⟨sm2, rfl⟩ hN
          obtain ⟨h0, eh, rfl⟩ := get_int' hx
          dsimp only [gName, List.set]
          refine yesT ?_
          refine ⟨_, rfl, _, rfl, by show 2 <= sizeLine; decide, fun g hg => ?_⟩
          have s3 := Same.new (o := HO.lst [V.int h0, .int one]) hg
          have hg3 : (upd H2 g (.lst [V.int h0, .int one])) g = some (.lst [V.int h0, .int one]) := upd_same
          generalize upd H2 g (.lst [V.int h0, .int one]) = H3 at s3 hg3 ⊢
          by_cases he2 : h0 = oth
          · refine ⟨_, rfl, _, rfl, rfl, .inr ⟨true, by rw [decide_eq_true (show V.int h0 = V.int oth by rw [he2])], g, _, _, _, rfl, rfl, SqL.of hg3, atI_nat (j := 1) rfl, ?_⟩⟩
            refine hN _ _ _ ⟨_, rfl⟩ ⟨sm2.trans s3, ?_⟩ (by simp)
            rw [take_succ_of eh, List.map_append, List.map_cons, List.map_nil, if_pos he2]
          · refine ⟨_, rfl, _, rfl, rfl, .inr ⟨false, by rw [decide_eq_false (show ¬ V.int h0 = V.int oth from fun z => he2 (by injection z))], g, _, _, _, rfl, rfl, SqL.of hg3, atI_nat (j := 0) rfl, ?_⟩⟩
            refine hN _ _ _ ⟨_, rfl⟩ ⟨sm2.trans s3, ?_⟩ (by simp)
            rw [take_succ_of eh, List.map_append, List.map_cons, List.map_nil, if_neg he2]
        · rintro ys H2 ⟨sm2, rfl⟩ p2 hp2
          dsimp only [List.set]
          refine ⟨p2, some (.int k), some (.int one), some (.int oth), ?_, (sm.trans sm2).trans (Same.new hp2), ?_⟩
          · rfl
          · rw [upd_same, e2, List.length_map, List.take_length, List.map_map]
            rfl
    · rintro σ H' ⟨l, u, v, t, rfl, sm, hl⟩
      rw [List.length_map, List.take_length] at hl
      exact ⟨_, rfl, q l H' sm hl⟩
theorem scLRank : FnScope ["_law_web_here", "_law_pick_here"] ["_law_web_here", "_law_pick_here"] (defScope sLRank) := ⟨rfl, rfl, rfl, by decide +kernel, rfl, by decide +kernel, by decide +kernel⟩
theorem d_lrank (T : Txt K mg) (hset : mg "set" = none) (S : Src K mg "_law_rank" sLRank ["_law_web_here", "_law_pick_here"]) (DM : Def P w K mg base 1 "_law_marks" ["_law_web_here", "_law_pick_here"] (spMarks K)) : Def P w K mg base 2 "_law_rank" ["_law_web_here", "_law_pick_here"] (spLRank K) := by
  refine S.def scLRank (fun vs H Q E h => ?_) (fun f cdv A outer s H vs Q E hr h => ?_)
  · obtain ⟨_, _, _, _, _, rfl, _⟩ := h; rfl
  · obtain ⟨wv, pk, n, ps, ks, rfl, W, ok, hk, hks, q⟩ := h
    obtain ⟨⟨n1, n9⟩, hb, h8⟩ := id ok
    obtain ⟨c, d, xs, rfl, hc, hd, ht⟩ := id W.ex
    refine ⟨_, pss_one (ps_ret (pe_op op_sub (pe_ix (ix_tupK K) (pv 0) pe_int (fun _ _ => rfl)) (pe_callB call_len_setH (by rfl) T.len PySem.boot_len (pa_cons (pe_callTy (call_set_ints rfl) rfl hset boot_set' (pa_cons (pe_def DM hr rfl (pa_cons (pv 0) (pa_cons (pv 1) pa_nil))) pa_nil)) pa_nil)))), ?_⟩
    have i0 : atI ([.int (n : Int), .ref d] : List V) 0 = some (.int (n : Int)) := atI_nat (j := 0) rfl
    refine ⟨_, rfl, c, _, _, _, rfl, rfl, SqT.of hc, i0, _, rfl, _, rfl, .t, .ref c, pk, (n : Int), ps, ks, rfl, W, ok, hk, hks, fun l H1 s1 hl => ?_⟩
    refine ⟨l, _, rfl, SqL.of hl, by unfold mkW; rw [rkF_len, ups_len]; lia, fun a S0 ha => ⟨a, S0, _, rfl, upd_same, _, _, rfl, rfl, ?_⟩⟩
    have e := mk_c (ps := ps) (ks := ks) (n := n) (by lia) (by lia) hb hks
    have q2 : ∀ H', Same H H' -> Q (.int ((n : Int) - (dcount (mkW n ps ks) : Int))) H' := fun H' s' => by
      have := q H' s'
      rw [<- e] at this
      exact this
    exact q2 _ (s1.trans (Same.new ha))
theorem scPick : FnScope ["_law_mask", "_law_many"] ["_law_mask", "_law_many"] (defScope sPick) := ⟨rfl, rfl, rfl, by decide +kernel, rfl, by decide +kernel, by decide +kernel⟩
theorem nd2p : (["_law_k", "_law_mask"] : List Str).Nodup := by decide +kernel
theorem d_pick (T : Txt K mg) (S : Src K mg "_law_pick" sPick ["_law_mask", "_law_many"]) : Def P w K mg base 1 "_law_pick" ["_law_mask", "_law_many"] spPick := by
  refine S.def scPick (fun vs H Q E h => ?_) (fun f cdv A outer s H vs Q E hr h => ?_)
  · obtain ⟨_, _, rfl, _⟩ := h; rfl
  · obtain ⟨b, m, rfl, m8, q⟩ := h
    refine ⟨_, pss_one (ps_ret (pe_callTy (call_tuple_ofK K) rfl T.tuple boot_tuple' (pa_cons (pe_comp (N' := ["_law_k", "_law_mask"]) (fr := [none, some 0]) (compOk_of (by rfl)) rfl (pi_range1 rfl T.range (pa_cons (pv 1) pa_nil))
      (fun _ _ _ _ => pg_name (i := 0) nd2p rfl (Or.inl rfl) (Or.inr rfl)) (fun _ _ _ _ => pifs_one (pt_cmpR op_eq (pe_op op_and (pe_op op_shr (pv 1) (pv 0)) pe_int) pe_int (nomark _))) (fun _ _ _ _ => pv 0)) pa_nil))), ?_⟩
    refine ⟨_, rfl, (m : Int), rfl, by lia, by lia, ?_⟩
    rw [Int.toNat_natCast]
    refine comp_range (lo := 0) (n := m) (fun σ => ∃ v, σ = [v, some (.int b)]) (fun j ys H5 => H5 = H /\ ys = ((ups j).filter (bitI b)).map V.int) ⟨_, rfl⟩ ⟨rfl, rfl⟩ (ten_line (by lia)) ?_ ?_
    · rintro j ys σ H5 N hj ⟨u, rfl⟩ ⟨rfl, rfl⟩ hN
      rw [show (0 : Int) + (j : Int) = (j : Int) by lia]
      dsimp only [gName, List.set]
      have eb : decide (V.int (Builtin.bitAnd (b / 2 ^ (j : Int).toNat) 1) = V.int 1) = bitI b j := by
        unfold bitI
        rw [decide_eq_decide]
        exact ⟨fun z => by injection z, fun z => by rw [z]⟩
      refine ⟨_, rfl, _, rfl, _, _, rfl, rfl, (by show (0 : Int) <= (j : Int); lia), _, _, rfl, rfl, rfl, _, rfl, ?_⟩
      rw [eb]
      have e1 : ups ((j + 1 : Nat) : Int) = ups j ++ [(j : Int)] := by rw [show ((j + 1 : Nat) : Int) = (j : Int) + 1 by lia, ups_snoc (by lia)]
      refine ite2 (fun z => ⟨_, rfl, ?_⟩) (fun z => ?_)
      · refine hN _ _ _ ⟨_, rfl⟩ ⟨rfl, ?_⟩ (by simp)
        rw [e1, List.filter_append, List.map_append]
        simp [z]
      · refine hN _ _ _ ⟨_, rfl⟩ ⟨rfl, ?_⟩ (by simp)
        rw [e1, List.filter_append]
        simp [z]
    · rintro ys H5 ⟨rfl, rfl⟩ p hp
      refine ⟨p, _, rfl, .inl ⟨SqL.of upd_same, fun t ht => ?_⟩⟩
      refine q t _ ((Same.new hp).trans (Same.new ht)) ?_
      rw [upd_same]
      rfl
end
def spIsWeb : Sp := fun vs H Q _ => ∃ (v u : V) (n : Int) (ps : List (Int × Int)), vs = [v, u] /\ WebAt H v n ps /\ WebAt H u n ps /\ ps.length <= 8 /\ ∀ H', Same H H' -> Q (.bl true) H'
section
variable {P : Program} {w : World} {K : W.Frag} {mg : Str -> Option Value} {base : Heap}
theorem scIsWeb : FnScope ["_law_found", "_law_due", "_law_numbers", "_law_tie"] ["_law_found", "_law_due"] (defScope sIsWeb) := ⟨rfl, rfl, rfl, by decide +kernel, rfl, by decide +kernel, by decide +kernel⟩
theorem nd1o : (["_law_one"] : List Str).Nodup := by decide +kernel
theorem d_isweb (T : Txt K mg) (S : Src K mg "_law_is_web" sIsWeb ["_law_found", "_law_due"]) : Def P w K mg base 1 "_law_is_web" ["_law_found", "_law_due"] spIsWeb := by
  refine S.def scIsWeb (fun vs H Q E h => ?_) (fun f cdv A outer s H vs Q E hr h => ?_)
  · obtain ⟨_, _, _, _, rfl, _⟩ := h; rfl
  · obtain ⟨v, u, n, ps, rfl, W, U, h8, q⟩ := h
    obtain ⟨c, d, xs, rfl, hc, hd, ht⟩ := id W.ex
    have xl : xs.length = ps.length := Paired.length ht
    refine ⟨_, pss_cons (ps_if (PW.pt (pw_or (pt_not (pt_val (pe_callB (call_isiK K) (by rfl) T.isi boot_isi (pa_cons (pv 0) (pa_cons (pe_bltn (v := .ty "tuple") rfl T.tuple boot_tuple' rfl) pa_nil)))))
        (pw_or (pt_cmpR op_ne (pe_callB (call_lenK K) (by rfl) T.len PySem.boot_len (pa_cons (pv 0) pa_nil)) pe_int (nomark _))
        (pw_or (pt_not (pt_val (pe_callB (call_isiK K) (by rfl) T.isi boot_isi (pa_cons (pe_ix (ix_tupK K) (pv 0) pe_int (fun _ _ => rfl)) (pa_cons (pe_bltn (v := .ty "tuple") rfl T.tuple boot_tuple' rfl) pa_nil)))))
        (pw_or1 (pt_cmpR (op_neSK K (units66 hr)) (pv 0) (pv 1) (nomark _))))))) (pss_one (ps_ret pe_bl)) pss_nil)
      (pss_cons (ps_set (i := 2) scIsWeb.nd rfl (Or.inl rfl) (pe_lst (pa_cons (pe_ix (ix_tupK K) (pv 0) pe_int (fun _ _ => rfl)) pa_nil)))
      (pss_cons (ps_for PassesOwn.never rfl (pi_seqK K .t (pe_ix (ix_tupK K) (pv 0) pe_int (fun _ _ => rfl))) (pg_name (i := 3) scIsWeb.nd rfl (Or.inl rfl))
        (pss_cons (ps_if (pt_not (pt_val (pe_callB (call_isiK K) (by rfl) T.isi boot_isi (pa_cons (pv 3) (pa_cons (pe_bltn (v := .ty "tuple") rfl T.tuple boot_tuple' rfl) pa_nil))))) (pss_one (ps_ret pe_bl)) pss_nil)
        (pss_one (ps_expr (pe_bm PySem.F.plainAttrs_list PySem.F.slot_list_extend PySem.F.type_list_extend mt_extend (pv 2) (pa_cons (pe_callTy (call_list_ofK K) rfl T.list boot_list' (pa_cons (pv 3) pa_nil)) pa_nil))))))
      (pss_one (ps_ret (pe_cmpR (op_eqNilK K (units66 hr)) (pe_comp (N' := ["_law_one"]) (fr := [none]) (compOk_of (by rfl)) rfl (pi_seqK K .l (pv 2)) (fun _ _ _ _ => pg_name (i := 0) nd1o rfl (Or.inl rfl) (Or.inr rfl))
        (fun _ _ _ _ => pifs_one (PW.pt (pw_or (pt_not (pt_val (pe_callB (r := rIsi K) (call_isiK K) (by rfl) T.isi boot_isi (pa_cons (pv 0) (pa_cons (pe_bltn (v := .ty "int") rfl T.int boot_int' rfl) pa_nil))))) (pw_or1 (pt_val (pe_callB (r := rIsi K) (call_isiK K) (by rfl) T.isi boot_isi (pa_cons (pv 0) (pa_cons (pe_bltn (v := .ty "bool") rfl T.bool boot_bool' rfl) pa_nil))))))))
        (fun _ _ _ _ => pv 0)) (pe_lst pa_nil) (nomark _)))))), ?_⟩
    have i0 : atI ([.int n, .ref d] : List V) 0 = some (.int n) := atI_nat (j := 0) rfl
    have i1 : atI ([.int n, .ref d] : List V) 1 = some (.ref d) := atI_nat (j := 1) rfl
    refine ⟨_, rfl, _, _, _, _, _, rfl, rfl, .tup hc, kp_tup K, _, rfl, iteF ?_⟩
    refine ⟨_, rfl, c, _, rfl, .inr (SqT.of hc), rfl, _, rfl, iteNS rfl ?_⟩
    refine ⟨_, rfl, c, _, _, _, rfl, rfl, SqT.of hc, i1, _, _, _, _, _, rfl, rfl, .tup hd, kp_tup K, _, rfl, iteF ?_⟩
    refine ⟨_, rfl, _, rfl, same_web W U ⟨_, rfl, iteF ?_⟩⟩
    refine ⟨_, rfl, c, _, _, _, rfl, rfl, SqT.of hc, i0, by show 1 <= sizeLine; decide, fun l hl => ?_⟩
    have s1 := Same.new (o := HO.lst [.int n]) hl
    have g1 : (upd H l (.lst [.int n])) l = some (.lst (([n] : List Int).map V.int)) := upd_same
    generalize upd H l (.lst [.int n]) = H1 at s1 g1 ⊢
    refine ⟨_, rfl, c, _, _, _, rfl, rfl, SqT.of (s1 _ _ hc), i1, d, rfl, ⟨_, SqT.of (s1 _ _ hd)⟩, for_seq (k := .t) (K := K) (a := d) (xs := xs) (fun i σ H' => (∃ t, σ = [some (.ref c), some u, some (.ref l), t]) /\ Same H H' /\ ∃ ms : List Int, H' l = some (.lst (ms.map V.int)) /\ ms.length = 1 + 2 * i) ⟨⟨_, rfl⟩, s1, [n], g1, rfl⟩ (fun i σ H' _ z => SqT.of (z.2.1 _ _ hd)) ?_ ?_⟩
    · rintro i x σ H2 hx ⟨⟨t, rfl⟩, sm, ms, hm, ml⟩
      obtain ⟨p, ep, b, rfl, hb⟩ := Paired.at ht hx
      have hi := (List.getElem?_eq_some_iff.mp hx).1
      have hb2 := sm _ _ hb
      dsimp only [gName, List.set]
      refine ⟨_, rfl, _, _, _, _, _, rfl, rfl, .tup hb2, kp_tup K, _, rfl, iteF ?_⟩
      refine ⟨_, rfl, .inl ⟨rfl, _, SqL.of hm⟩, _, rfl, b, _, rfl, .inr (SqT.of hb2), fun g hg => ?_⟩
      have s3 := Same.new (o := HO.lst [.int p.1, .int p.2]) hg
      refine ⟨l, g, _, [.int p.1, .int p.2], rfl, rfl, s3 _ _ hm, upd_same, ?_, ⟨_, rfl⟩, put_fresh (sm.trans s3) hl, ms ++ [p.1, p.2], ?_, ?_⟩
      · rw [List.length_map, ml]
        exact Nat.le_of_lt (line100 (by show 1 + 2 * i + 2 <= 100; lia))
      · rw [upd_same, List.map_append]
        rfl
      · rw [List.length_append, ml]
        show 1 + 2 * i + 2 = 1 + 2 * (i + 1)
        lia
    · rintro σ H2 ⟨⟨t, rfl⟩, sm, ms, hm, ml⟩
      refine ⟨_, rfl, l, rfl, ⟨_, SqL.of hm⟩, comp_seq (k := .l) (a := l) (xs := ms.map V.int) (fun σ => ∃ v, σ = [v]) (fun i ys H3 => H3 = H2 /\ ys = []) ⟨_, rfl⟩ ⟨rfl, rfl⟩ (line100 (by rw [List.length_map]; lia)) (fun i ys H3 _ z => by rw [z.1]; exact SqL.of hm) ?_ ?_⟩
      · rintro i x ys σ H3 N hx ⟨u, rfl⟩ ⟨rfl, rfl⟩ hN
        obtain ⟨k, ek, rfl⟩ := get_int' hx
        dsimp only [gName, List.set]
        refine ⟨_, rfl, _, _, _, _, _, rfl, rfl, .int _, kp_int K, _, rfl, iteF ⟨_, rfl, _, _, _, _, _, rfl, rfl, .int _, kp_intb K, _, rfl, iteF ?_⟩⟩
        exact hN _ _ _ ⟨_, rfl⟩ ⟨rfl, rfl⟩ (by simp)
      · rintro ys H3 ⟨rfl, rfl⟩ p4 hp4
        have s4 := Same.new (o := HO.lst []) hp4
        refine ⟨Nat.zero_le _, fun e he => ⟨p4, e, [], rfl, rfl, SqL.of (Same.new he _ _ upd_same), SqL.of upd_same, q _ (sm.trans (s4.trans (Same.new he)))⟩⟩
end
def spApart (K : W.Frag) : Sp := fun vs H Q _ => ∃ (wv : V) (n : Nat) (ps : List (Int × Int)) (u v load : Int), vs = [wv, .int u, .int v, .int load] /\ WebAt H wv n ps /\ WebOk (n : Int) ps /\ ∀ t H', Same H H' -> H' t = some (.tup ((apP n ps u v load).map V.int)) -> Q (.ref t) H'
def spLTurn (K : W.Frag) : Sp := fun vs H Q _ => ∃ (wv : V) (pk : Addr) (n : Nat) (ps : List (Int × Int)) (ks : List Int) (u v : Int), vs = [wv, .ref pk, .int u, .int v] /\ WebAt H wv n ps /\ WebOk (n : Int) ps /\ SqT K H pk (ks.map V.int) /\ Ks ps.length ks /\ ks.Nodup /\ (0 <= u /\ u < (n : Int)) /\ (0 <= v /\ v < (n : Int)) /\
  ∀ w' H', Same H H' -> WebAt H' w' n (turnP n u v ps ks) -> Q w' H'
theorem tie_of {ps : List (Int × Int)} {i : Nat} {p : Int × Int} (h : ps[i]? = some p) : tieN ps (i : Int) = p := by
  unfold tieN
  rw [Int.toNat_natCast, List.getD_eq_getElem?_getD, h]
  rfl
theorem ups_filt (f : Int -> Bool) (i : Nat) : (ups ((i + 1 : Nat) : Int)).filter f = (ups (i : Int)).filter f ++ if f (i : Int) = true then [(i : Int)] else [] := by
  rw [show ((i + 1 : Nat) : Int) = (i : Int) + 1 by lia, ups_snoc (by lia), List.filter_append]
  congr 1
  cases e : f (i : Int) <;> simp [e]
theorem filt_len (f : Int -> Bool) (i : Nat) : ((ups (i : Int)).filter f).length <= i := by
  have := List.length_filter_le f (ups (i : Int))
  rw [ups_len] at this
  lia
section
variable {P : Program} {w : World} {K : W.Frag} {mg : Str -> Option Value} {base : Heap}
theorem scApart : FnScope ["_law_web_here", "_law_u", "_law_v", "_law_load", "_law_inside", "_law_k", "_law_tie", "_law_marks_here", "_law_found", "_law_others", "_law_bit"] ["_law_web_here", "_law_u", "_law_v", "_law_load"] (defScope sApart) := ⟨rfl, rfl, rfl, by decide +kernel, rfl, by decide +kernel, by decide +kernel⟩
theorem ndpuv : (["_law_point", "_law_u", "_law_v"] : List Str).Nodup := by decide +kernel
theorem d_apart (T : Txt K mg) (henum : mg "enumerate" = none) (S : Src K mg "_law_apart" sApart ["_law_web_here", "_law_u", "_law_v", "_law_load"]) (DM : Def P w K mg base 1 "_law_marks" ["_law_web_here", "_law_pick_here"] (spMarks K)) : Def P w K mg base 2 "_law_apart" ["_law_web_here", "_law_u", "_law_v", "_law_load"] (spApart K) := by
  refine S.def scApart (fun vs H Q E h => ?_) (fun f cdv A outer s H vs Q E hr h => ?_)
  · obtain ⟨_, _, _, _, _, _, rfl, _⟩ := h; rfl
  · obtain ⟨wv, n, ps, u, v, load, rfl, W, ok, q⟩ := h
    obtain ⟨⟨n1, n9⟩, hb, h8⟩ := id ok
    obtain ⟨c, d, xs, rfl, hc, hd, ht⟩ := id W.ex
    have xl : xs.length = ps.length := Paired.length ht
    refine ⟨_, pss_cons (ps_set (i := 4) scApart.nd rfl (Or.inl rfl) (pe_lst pa_nil))
      (pss_cons (ps_for PassesOwn.never rfl (pi_enumK K .t rfl henum (pa_cons (pe_ix (ix_tupK K) (pv 0) pe_int (fun _ _ => rfl)) pa_nil)) (pg_tupK K 2 rfl (pgs_cons (pg_name (i := 5) scApart.nd rfl (Or.inl rfl)) (pgs_cons (pg_name (i := 6) scApart.nd rfl (Or.inl rfl)) pgs_nil)))
        (pss_one (ps_if (PW.pt (pw_and (pt_cmpR op_notIn_seq (pv 1) (pv 6) rfl) (pw_and1 (pt_cmpR op_notIn_seq (pv 2) (pv 6) rfl)))) (pss_one (ps_expr (pe_bm PySem.F.plainAttrs_list PySem.F.slot_list_append PySem.F.type_list_append mt_append (pv 4) (pa_cons (pv 5) pa_nil)))) pss_nil)))
      (pss_cons (ps_set (i := 7) scApart.nd rfl (Or.inl rfl) (pe_def DM hr rfl (pa_cons (pv 0) (pa_cons (pv 4) pa_nil))))
      (pss_cons (ps_set (i := 8) scApart.nd rfl (Or.inl rfl) (pe_lst pa_nil))
      (pss_cons (ps_for PassesOwn.never rfl (pi_enumK K .t rfl henum (pa_cons (pe_ix (ix_tupK K) (pv 0) pe_int (fun _ _ => rfl)) pa_nil)) (pg_tupK K 2 rfl (pgs_cons (pg_name (i := 5) scApart.nd rfl (Or.inl rfl)) (pgs_cons (pg_name (i := 6) scApart.nd rfl (Or.inl rfl)) pgs_nil)))
        (pss_cons (ps_setComp (i := 9) scApart.nd rfl (Or.inl rfl) (N' := ["_law_point", "_law_u", "_law_v"]) (fr := [none, some 1, some 2]) (compOk_of (by rfl)) rfl (pi_seqK K .t (pv 6)) (fun _ _ _ _ => pg_name (i := 0) ndpuv rfl (Or.inl rfl) (Or.inr rfl)) (fun _ _ _ _ => pifs_one (PW.pt (pw_and (pt_cmpR op_ne (pv 0) (pv 1) (nomark _)) (pw_and1 (pt_cmpR op_ne (pv 0) (pv 2) (nomark _)))))) (fun _ _ _ _ => pv 0))
        (pss_cons (ps_set (i := 10) scApart.nd rfl (Or.inl rfl) (pe_op op_and (pe_op op_shr (pv 3) (pe_op op_add pe_int (pv 5))) pe_int))
        (pss_cons (ps_if (pt_cmpR (op_neNilK K (units66 hr)) (pv 9) (pe_lst pa_nil) (nomark _)) (pss_one (ps_set (i := 10) scApart.nd rfl (Or.inl rfl) (pe_op op_and (pe_op op_shr (pv 3) (pe_ix (ix_listK K) (pv 7) (pe_ix (ix_listK K) (pv 9) pe_int (fun _ _ => rfl)) (fun _ _ => rfl))) pe_int))) pss_nil)
        (pss_one (ps_if (pt_cmpR op_eq (pv 10) pe_int (nomark _)) (pss_one (ps_expr (pe_bm PySem.F.plainAttrs_list PySem.F.slot_list_append PySem.F.type_list_append mt_append (pv 8) (pa_cons (pv 5) pa_nil)))) pss_nil))))))
      (pss_one (ps_ret (pe_callTy (call_tuple_ofK K) rfl T.tuple boot_tuple' (pa_cons (pv 8) pa_nil)))))))), ?_⟩
    have i1 : atI ([.int (n : Int), .ref d] : List V) 1 = some (.ref d) := atI_nat (j := 1) rfl
    refine seq_abs fun M hM => ?_
    refine ⟨Nat.zero_le _, fun g hg => ?_⟩
    have s0 := Same.new (o := HO.lst []) hg
    have g0 : (upd H g (.lst [])) g = some (.lst (([] : List Int).map V.int)) := upd_same
    generalize upd H g (.lst []) = H1 at s0 g0 ⊢
    refine hM _ _ ?_
    clear hM M
    dsimp only [List.set]
    refine seq_abs fun M hM => ?_
    let fI : Int -> Bool := fun k => !decide (u ∈ [(tieN ps k).1, (tieN ps k).2]) && !decide (v ∈ [(tieN ps k).1, (tieN ps k).2])
    refine ⟨_, rfl, c, _, _, _, rfl, rfl, SqT.of (s0 _ _ hc), i1, d, _, rfl, SqT.of (s0 _ _ hd), for_enum (k := .t) (K := K) (a := d) (xs := xs) (fun i σ H' => (∃ a5 a6, σ = [some (.ref c), some (.int u), some (.int v), some (.int load), some (.ref g), a5, a6, none, none, none, none]) /\ Same H H' /\ H' g = some (.lst (((ups (i : Int)).filter fI).map V.int))) ⟨⟨_, _, rfl⟩, s0, g0⟩ (fun i σ H' _ z => SqT.of (z.2.1 _ _ hd)) ?_ ?_⟩
    · rintro i x p σ H2 hx ⟨⟨a5, a6, rfl⟩, sm, hg2⟩ hp
      obtain ⟨pt, ep, e, rfl, he⟩ := Paired.at ht hx
      have il := (List.getElem?_eq_some_iff.mp hx).1
      have et := tie_of ep
      have s3 := Same.new (o := HO.tup [.int (i : Int), .ref e]) hp
      refine ⟨p, _, rfl, SqT.of upd_same, rfl, _, _, rfl, _, _, rfl, rfl, ?_⟩
      have hg3 := s3 _ _ hg2
      have sm3 := sm.trans s3
      generalize upd H2 p (.tup [.int (i : Int), .ref e]) = H3 at hg3 sm3 ⊢
      dsimp only [List.set]
      have he3 := sm3 _ _ he
      have fe : fI (i : Int) = (!decide (u ∈ [pt.1, pt.2]) && !decide (v ∈ [pt.1, pt.2])) := by show (!decide (u ∈ [(tieN ps i).1, (tieN ps i).2]) && !decide (v ∈ [(tieN ps i).1, (tieN ps i).2])) = _; rw [et]
      have uf := ups_filt fI i
      have ul := filt_len fI i
      generalize fI = fI at *
      refine ⟨_, rfl, _, rfl, e, [.int pt.1, .int pt.2], rfl, .inr (SqT.of he3), rfl, rfl, _, rfl, ?_⟩
      rw [if_pos rfl, show inV (.int u) [V.int pt.1, V.int pt.2] = decide (u ∈ [pt.1, pt.2]) from in_ints u [pt.1, pt.2]]
      refine ite2 (fun z1 => ?_) (fun z1 => iteF ?_)
      · refine ⟨_, rfl, _, rfl, e, [.int pt.1, .int pt.2], rfl, .inr (SqT.of he3), rfl, rfl, _, rfl, ?_⟩
        rw [if_pos rfl, show inV (.int v) [V.int pt.1, V.int pt.2] = decide (v ∈ [pt.1, pt.2]) from in_ints v [pt.1, pt.2]]
        refine ite2 (fun z2 => ?_) (fun z2 => ?_)
        · refine ⟨_, rfl, .inl ⟨rfl, _, SqL.of hg3⟩, _, rfl, g, _, .int (i : Int), rfl, rfl, hg3, ten_line (by rw [List.length_map]; lia), ⟨_, _, rfl⟩, put_fresh sm3 hg, ?_⟩
          rw [upd_same, uf, fe, z1, z2, if_pos (by rfl), List.map_append]
          rfl
        · refine ⟨⟨_, _, rfl⟩, sm3, ?_⟩
          rw [hg3, uf, fe, if_neg (by rw [Bool.and_eq_true]; exact fun z => z2 z.2), List.append_nil]
      · refine ⟨⟨_, _, rfl⟩, sm3, ?_⟩
        rw [hg3, uf, fe, if_neg (by rw [Bool.and_eq_true]; exact fun z => z1 z.1), List.append_nil]
    rintro σ H2 ⟨⟨a5, a6, rfl⟩, sm, hg2⟩
    rw [xl] at hg2
    replace hg2 : H2 g = some (.lst ((insP ps u v).map V.int)) := hg2
    refine hM _ _ ?_
    clear hM M fI
    refine seq_abs fun M hM => ?_
    refine ⟨_, rfl, _, rfl, .l, .ref c, g, (n : Int), ps, insP ps u v, rfl, W.same sm, ok, SqL.of hg2, ins_ks _ _ _, fun l H3 s3 hl3 => ?_⟩
    have sm3 := sm.trans s3
    clear sm s3 hg2 s0 g0
    refine hM _ _ ?_
    clear hM M
    have kd := mk_in hb (insP ps u v) (ups n, 0) (ins_ks ps u v) (by rw [ups_len]; lia) (fun z hz => mem_ups.mp hz)
    have ml : (mkW n ps (insP ps u v)).length = n := by unfold mkW; rw [rkF_len, ups_len]; lia
    replace kd : ∀ z ∈ mkW n ps (insP ps u v), 0 <= z /\ z < (n : Int) := kd
    let fA : Int -> Bool := fun k => decide (bvK (mkW n ps (insP ps u v)) load u v (tieN ps k) k = 1)
    have q2 : ∀ t H', Same H H' -> H' t = some (.tup (((ups ps.length).filter fA).map V.int)) -> Q (.ref t) H' := q
    have fd : ∀ k, fA k = decide (bvK (mkW n ps (insP ps u v)) load u v (tieN ps k) k = 1) := fun _ => rfl
    clear q
    generalize mkW n ps (insP ps u v) = ms at kd ml hl3 fd
    generalize fA = fA at *
    dsimp only [List.set]
    refine seq_abs fun M hM => ?_
    refine ⟨Nat.zero_le _, fun g4 hg4 => ?_⟩
    have g4N : H g4 = none := was_none sm3 hg4
    have s4 := sm3.trans (Same.new (o := HO.lst []) hg4)
    have g40 : (upd H3 g4 (.lst [])) g4 = some (.lst (([] : List Int).map V.int)) := upd_same
    have hl4 := Same.new (o := HO.lst []) hg4 _ _ hl3
    have ngl : l ≠ g4 := fun z => by rw [z, hg4] at hl3; cases hl3
    generalize upd H3 g4 (.lst []) = H4 at s4 g40 hl4 ⊢
    refine hM _ _ ?_
    clear hM M
    dsimp only [List.set]
    refine seq_abs fun M hM => ?_
    refine ⟨_, rfl, c, _, _, _, rfl, rfl, SqT.of (s4 _ _ hc), i1, d, _, rfl, SqT.of (s4 _ _ hd), for_enum (k := .t) (K := K) (a := d) (xs := xs) (fun i σ H' => (∃ a5 a6 a9 a10, σ = [some (.ref c), some (.int u), some (.int v), some (.int load), some (.ref g), a5, a6, some (.ref l), some (.ref g4), a9, a10]) /\ Same H H' /\ H' l = some (.lst (ms.map V.int)) /\ H' g4 = some (.lst (((ups (i : Int)).filter fA).map V.int))) ⟨⟨_, _, _, _, rfl⟩, s4, hl4, g40⟩ (fun i σ H' _ z => SqT.of (z.2.1 _ _ hd)) ?_ ?_⟩
    · rintro i x p σ H5 hx ⟨⟨a5, a6, a9, a10, rfl⟩, sm, hl5, hg5⟩ hp
      obtain ⟨pt, ep, e, rfl, he⟩ := Paired.at ht hx
      have il := (List.getElem?_eq_some_iff.mp hx).1
      have et := tie_of ep
      obtain ⟨a1, a2, b1, b2⟩ := hb pt (List.mem_of_getElem? ep)
      have s6 := Same.new (o := HO.tup [.int (i : Int), .ref e]) hp
      refine ⟨p, _, rfl, SqT.of upd_same, rfl, _, _, rfl, _, _, rfl, rfl, ?_⟩
      have hg6 := s6 _ _ hg5
      have hl6 := s6 _ _ hl5
      have sm6 := sm.trans s6
      generalize upd H5 p (.tup [.int (i : Int), .ref e]) = H6 at hg6 hl6 sm6 ⊢
      clear sm hg5 hl5 s6 hp
      dsimp only [List.set]
      have he6 := sm6 _ _ he
      refine seq_abs fun M1 hM1 => ?_
      refine ⟨_, rfl, e, rfl, ⟨_, SqT.of he6⟩, comp_seq (k := .t) (a := e) (xs := [pt.1, pt.2].map V.int) (fun σ => ∃ z, σ = [z, some (.int u), some (.int v)]) (fun j ys H7 => H7 = H6 /\ ys = (([pt.1, pt.2].take j).filter fun x => !decide (x = u) && !decide (x = v)).map V.int) ⟨_, rfl⟩ ⟨rfl, rfl⟩ (by show 2 < sizeLine; decide) (fun j ys H7 _ z => by rw [z.1]; exact SqT.of he6) ?_ ?_⟩
      · rintro j y ys σ H7 N hy ⟨z, rfl⟩ ⟨rfl, rfl⟩ hN
        obtain ⟨k, ek, rfl⟩ := get_int' hy
        dsimp only [gName, List.set]
        refine ⟨_, rfl, _, rfl, rfl, _, rfl, ?_⟩
        rw [dec_int]
        refine ite2 (fun z1 => ?_) (fun z1 => iteF ?_)
        · refine ⟨_, rfl, _, rfl, rfl, _, rfl, ?_⟩
          rw [dec_int]
          refine ite2 (fun z2 => ⟨_, rfl, ?_⟩) (fun z2 => ?_)
          · refine hN _ _ _ ⟨_, rfl⟩ ⟨rfl, ?_⟩ (by simp)
            rw [filt_take _ ek, if_pos (by rw [Bool.and_eq_true]; exact ⟨z1, z2⟩), List.map_append]
            rfl
          · refine hN _ _ _ ⟨_, rfl⟩ ⟨rfl, ?_⟩ (by simp)
            rw [filt_take _ ek, if_neg (by rw [Bool.and_eq_true]; exact fun z => z2 z.2), List.append_nil]
        · refine hN _ _ _ ⟨_, rfl⟩ ⟨rfl, ?_⟩ (by simp)
          rw [filt_take _ ek, if_neg (by rw [Bool.and_eq_true]; exact fun z => z1 z.1), List.append_nil]
      rintro ys H7 ⟨rfl, rfl⟩ p7 hp7
      have eo : ([pt.1, pt.2].take ([pt.1, pt.2].map V.int).length).filter (fun x => !decide (x = u) && !decide (x = v)) = othP u v pt := rfl
      rw [eo]
      have ho : ∀ y ∈ othP u v pt, 0 <= y /\ y < (n : Int) := fun y hy => by
        rcases (mem_oth.mp hy).1 with z | z <;> rw [z]
        · exact ⟨a1, a2⟩
        · exact ⟨b1, b2⟩
      have fe := fd (i : Int)
      rw [et] at fe
      have uf := ups_filt fA i
      have ul := filt_len fA i
      unfold bvK at fe
      generalize othP u v pt = ot at ho fe
      have s8 := Same.new (o := HO.lst (ot.map V.int)) hp7
      have h8' : (upd H7 p7 (.lst (ot.map V.int))) p7 = some (.lst (ot.map V.int)) := upd_same
      have hg8 := s8 _ _ hg6
      have hl8 := s8 _ _ hl6
      have sm8 := sm6.trans s8
      generalize upd H7 p7 (.lst (ot.map V.int)) = H8 at h8' hg8 hl8 sm8 ⊢
      dsimp only [List.set]
      refine hM1 _ _ ?_
      clear hM1 M1 eo
      refine seq_abs fun M1 hM1 => ?_
      refine ⟨_, rfl, _, rfl, _, _, rfl, rfl, _, _, rfl, rfl, (by show (0 : Int) <= 9 + (i : Int); lia), _, _, rfl, rfl, ?_⟩
      refine hM1 _ _ ?_
      clear hM1 M1
      refine seq_abs fun M1 hM1 => ?_
      refine ⟨_, rfl, Nat.zero_le _, fun e9 he9 => ⟨p7, e9, ot.map V.int, rfl, rfl, SqL.of (Same.new he9 _ _ h8'), SqL.of upd_same, _, rfl, ?_⟩⟩
      have s9 := Same.new (o := HO.lst []) he9
      have hg9 := s9 _ _ hg8
      have hl9 := s9 _ _ hl8
      have h9' := s9 _ _ h8'
      have sm9 := sm8.trans s9
      generalize upd H8 e9 (.lst []) = H9 at hg9 hl9 h9' sm9 ⊢
      clear hg8 hl8 h8' sm8 s9 s8 hg6 hl6 sm6
      have fin : ∀ bv : Int, fA (i : Int) = decide (bv = 1) -> M1 [some (.ref c), some (.int u), some (.int v), some (.int load), some (.ref g), some (.int (i : Int)), some (.ref e), some (.ref l), some (.ref g4), some (.ref p7), some (.int bv)] H9 := fun bv eb => by
        refine hM1 _ _ ?_
        refine ⟨_, rfl, rfl, _, rfl, ?_⟩
        rw [dec_int, <- eb]
        refine ite2 (fun z => ?_) (fun z => ?_)
        · refine ⟨_, rfl, .inl ⟨rfl, _, SqL.of hg9⟩, _, rfl, g4, _, .int (i : Int), rfl, rfl, hg9, ten_line (by rw [List.length_map]; lia), ⟨_, _, _, _, rfl⟩, put_fresh sm9 g4N, by rw [upd_ne ngl]; exact hl9, ?_⟩
          rw [upd_same, uf, if_pos z, List.map_append]
          rfl
        · refine ⟨⟨_, _, _, _, rfl⟩, sm9, hl9, ?_⟩
          rw [hg9, uf, if_neg z, List.append_nil]
      cases ot with
      | nil => exact fin _ fe
      | cons y ot =>
        obtain ⟨y0, yn⟩ := ho y List.mem_cons_self
        have ay := at_int (l := ms) (i := y) y0 (by lia)
        have az := kd _ (at_mem (l := ms) (i := y) y0 (by lia))
        refine ⟨_, rfl, _, rfl, _, rfl, p7, _, _, _, rfl, rfl, SqL.of h9', atI_nat (j := 0) rfl, l, _, _, _, rfl, rfl, SqL.of hl9, ay, _, _, rfl, rfl, az.1, _, _, rfl, rfl, ?_⟩
        exact fin _ fe
    · rintro σ H5 ⟨⟨a5, a6, a9, a10, rfl⟩, sm, hl5, hg5⟩
      rw [xl] at hg5
      refine hM _ _ ?_
      refine ⟨_, rfl, g4, _, rfl, .inl ⟨SqL.of hg5, fun t ht5 => ?_⟩⟩
      exact q2 t _ (sm.trans (Same.new ht5)) upd_same
theorem scLTurn : FnScope ["_law_web_here", "_law_pick_here", "_law_u", "_law_v", "_law_places", "_law_ties", "_law_k", "_law_ends"] ["_law_web_here", "_law_pick_here", "_law_u", "_law_v"] (defScope sLTurn) := ⟨rfl, rfl, rfl, by decide +kernel, rfl, by decide +kernel, by decide +kernel⟩
theorem ndpp : (["_law_point", "_law_places"] : List Str).Nodup := by decide +kernel
theorem d_lturn (T : Txt K mg) (S : Src K mg "_law_turned" sLTurn ["_law_web_here", "_law_pick_here", "_law_u", "_law_v"]) : Def P w K mg base 1 "_law_turned" ["_law_web_here", "_law_pick_here", "_law_u", "_law_v"] (spLTurn K) := by
  refine S.def scLTurn (fun vs H Q E h => ?_) (fun f cdv A outer s H vs Q E hr h => ?_)
  · obtain ⟨_, _, _, _, _, _, _, rfl, _⟩ := h; rfl
  · obtain ⟨wv, pk, n, ps, ks, u, v, rfl, W, ok, hk, hks, nd, hu, hv, q⟩ := h
    obtain ⟨⟨n1, n9⟩, hb, h8⟩ := id ok
    obtain ⟨c, d, xs, rfl, hc, hd, ht⟩ := id W.ex
    refine ⟨_, pss_cons (ps_set (i := 4) scLTurn.nd rfl (Or.inr rfl) (pe_callTy (call_list_rng rfl) rfl T.list boot_list' (pa_cons (pe_callTy call_range1 rfl T.range boot_range' (pa_cons (pe_ix (ix_tupK K) (pv 0) pe_int (fun _ _ => rfl)) pa_nil)) pa_nil)))
      (pss_cons (ps_asg (pv 3) (pg_sub (pv 4) (pv 2) set_list))
      (pss_cons (ps_asg (pv 2) (pg_sub (pv 4) (pv 3) set_list))
      (pss_cons (ps_set (i := 5) scLTurn.nd rfl (Or.inl rfl) (pe_callTy (call_list_ofK K) rfl T.list boot_list' (pa_cons (pe_ix (ix_tupK K) (pv 0) pe_int (fun _ _ => rfl)) pa_nil)))
      (pss_cons (ps_for PassesOwn.never rfl (pi_seqK K .t (pv 1)) (pg_name (i := 6) scLTurn.nd rfl (Or.inl rfl))
        (pss_cons (ps_setComp (i := 7) scLTurn.nd rfl (Or.inl rfl) (N' := ["_law_point", "_law_places"]) (fr := [none, some 4]) (compOk_of (by rfl)) rfl (pi_seqK K .t (pe_ix (ix_listK K) (pv 5) (pv 6) (fun _ _ => rfl))) (fun _ _ _ _ => pg_name (i := 0) ndpp rfl (Or.inl rfl) (Or.inr rfl)) (fun _ _ _ _ => pifs_nil) (fun _ _ _ _ => pe_ix (r := rIxL K) (ix_listK K) (pv 1) (pv 0) (fun _ _ => rfl)))
        (pss_one (ps_asg (pe_tup (pa_cons (pe_callB (call_min2L rfl) (by rfl) T.min boot_min' (pa_cons (pv 7) pa_nil)) (pa_cons (pe_callB (call_max2L rfl) (by rfl) T.max boot_max' (pa_cons (pv 7) pa_nil)) pa_nil))) (pg_sub (pv 5) (pv 6) set_list)))))
      (pss_one (ps_ret (pe_tup (pa_cons (pe_ix (ix_tupK K) (pv 0) pe_int (fun _ _ => rfl)) (pa_cons (pe_callTy (call_tuple_ofK K) rfl T.tuple boot_tuple' (pa_cons (pv 5) pa_nil)) pa_nil))))))))), ?_⟩
    have i0 : atI ([.int (n : Int), .ref d] : List V) 0 = some (.int (n : Int)) := atI_nat (j := 0) rfl
    have i1 : atI ([.int (n : Int), .ref d] : List V) 1 = some (.ref d) := atI_nat (j := 1) rfl
    refine ⟨_, rfl, c, _, _, _, rfl, rfl, SqT.of hc, i0, _, rfl, fun p hp => ⟨p, n, rfl, upd_same, by lia, fun l hl => ?_⟩⟩
    have lN : H l = none := was_none (Same.new (o := HO.rng 0 n) hp) hl
    have s1 := (Same.new (o := HO.rng 0 n) hp).trans (Same.new (o := HO.lst (upN n)) hl)
    have hl1 : (upd (upd H p (.rng 0 n)) l (.lst (upN n))) l = some (.lst ((ups n).map V.int)) := by rw [upd_same, upN_ups]
    generalize upd (upd H p (.rng 0 n)) l (.lst (upN n)) = H1 at s1 hl1 ⊢
    dsimp only [List.set]
    have ixu : ∀ (z : Int) (ms : List Int), 0 <= z -> z < (n : Int) -> ms.length = n -> ixN (ms.map V.int).length z = some z.toNat := fun z ms z0 zn e => by
      unfold ixN
      rw [if_pos z0, List.length_map, if_pos (by lia)]
    refine ⟨_, rfl, _, rfl, _, rfl, l, _, u, u.toNat, rfl, rfl, hl1, ixu u (ups n) hu.1 hu.2 (by rw [ups_len]; lia), ?_⟩
    have s2 := put_fresh (o := .lst (((ups n).map V.int).set u.toNat (.int v))) s1 lN
    have hl2 : (upd H1 l (.lst (((ups n).map V.int).set u.toNat (.int v)))) l = some (.lst (((ups n).set u.toNat v).map V.int)) := by rw [upd_same, List.map_set]
    generalize upd H1 l (.lst (((ups n).map V.int).set u.toNat (.int v))) = H2 at s2 hl2 ⊢
    refine ⟨_, rfl, _, rfl, _, rfl, l, _, v, v.toNat, rfl, rfl, hl2, ixu v ((ups n).set u.toNat v) hv.1 hv.2 (by rw [List.length_set, ups_len]; lia), ?_⟩
    have s3 := put_fresh (o := .lst ((((ups n).set u.toNat v).map V.int).set v.toNat (.int u))) s2 lN
    have hl3 : (upd H2 l (.lst ((((ups n).set u.toNat v).map V.int).set v.toNat (.int u)))) l = some (.lst ((plc n u v).map V.int)) := by rw [upd_same, <- List.map_set]; rfl
    generalize upd H2 l (.lst ((((ups n).set u.toNat v).map V.int).set v.toNat (.int u))) = H3 at s3 hl3 ⊢
    have pl := plc_len n u v
    refine ⟨_, rfl, c, _, _, _, rfl, rfl, SqT.of (s3 _ _ hc), i1, d, _, rfl, .inr (SqT.of (s3 _ _ hd)), fun g hg => ?_⟩
    have gN : H g = none := was_none s3 hg
    have ngl : l ≠ g := fun z => by rw [z, hg] at hl3; cases hl3
    have s4 := s3.trans (Same.new (o := HO.lst xs) hg)
    have hl4 := Same.new (o := HO.lst xs) hg _ _ hl3
    have hg4 : (upd H3 g (.lst xs)) g = some (.lst xs) := upd_same
    generalize upd H3 g (.lst xs) = H4 at s4 hl4 hg4 ⊢
    dsimp only [List.set]
    refine seq_abs fun M hM => ?_
    refine ⟨_, rfl, pk, rfl, ⟨_, s4.tup hk⟩, for_seq (k := .t) (K := K) (a := pk) (xs := ks.map V.int) (fun i σ H' => (∃ a6 a7, σ = [some (.ref c), some (.ref pk), some (.int u), some (.int v), some (.ref l), some (.ref g), a6, a7]) /\ Same H H' /\ H' l = some (.lst ((plc n u v).map V.int)) /\ ∃ zs, H' g = some (.lst zs) /\ Paired (TieAt H') zs (turnP n u v ps (ks.take i))) ⟨⟨_, _, rfl⟩, s4, hl4, xs, hg4, by rw [List.take_zero, turn_nil]; exact ties_same ht s4⟩ (fun i σ H' _ z => z.2.1.tup hk) ?_ ?_⟩
    · rintro i x σ H5 hx ⟨⟨a6, a7, rfl⟩, sm, hl5, zs, hg5, pz⟩
      obtain ⟨k, ek, rfl⟩ := get_int' hx
      obtain ⟨k0, kl⟩ := hks k (List.mem_of_getElem? ek)
      have nk : ¬ k ∈ ks.take i := fun z => by
        obtain ⟨j, hj, e⟩ := List.getElem_of_mem z
        rw [List.length_take] at hj
        rw [List.getElem_take] at e
        have ii := (List.getElem?_eq_some_iff.mp ek).1
        have ei := (List.getElem?_eq_some_iff.mp ek).2
        have := (List.getElem_inj nd).mp (e.trans ei.symm)
        lia
      have zl : zs.length = ps.length := by rw [Paired.length pz, turn_len]
      obtain ⟨tc, et, htc⟩ := at_tie pz k0 (by rw [turn_len]; exact kl)
      rw [turn_old k0 kl nk] at htc
      obtain ⟨a1, a2, b1, b2⟩ := tieN_in hb k0 kl
      have eT : turnP n u v ps (ks.take (i + 1)) = (turnP n u v ps (ks.take i)).set k.toNat (renT (plc n u v) (tieN ps k)) := by rw [take_succ_of ek, turn_snoc k0 kl]
      generalize tieN ps k = t at htc a1 a2 b1 b2 eT
      dsimp only [gName, List.set]
      refine ⟨_, rfl, _, rfl, g, _, _, _, rfl, rfl, SqL.of hg5, et, tc, rfl, ⟨_, SqT.of htc⟩, comp_seq (k := .t) (a := tc) (xs := [t.1, t.2].map V.int) (fun σ => ∃ z, σ = [z, some (.ref l)]) (fun j ys H6 => H6 = H5 /\ ys = (([t.1, t.2].take j).map (at0 (plc n u v))).map V.int) ⟨_, rfl⟩ ⟨rfl, rfl⟩ (by show 2 < sizeLine; decide) (fun j ys H6 _ z => by rw [z.1]; exact SqT.of htc) ?_ ?_⟩
      · rintro j y ys σ H6 N hy ⟨z, rfl⟩ ⟨rfl, rfl⟩ hN
        obtain ⟨x, ex, rfl⟩ := get_int' hy
        have x0 : 0 <= x /\ x < (n : Int) := by
          have := List.mem_of_getElem? ex
          rw [List.mem_cons, List.mem_singleton] at this
          rcases this with z | z <;> rw [z]
          · exact ⟨a1, a2⟩
          · exact ⟨b1, b2⟩
        have ax := at_int (l := plc n u v) (i := x) x0.1 (by lia)
        dsimp only [gName, List.set]
        refine yesT ⟨_, rfl, _, rfl, l, _, _, _, rfl, rfl, SqL.of hl5, ax, ?_⟩
        refine hN _ _ _ ⟨_, rfl⟩ ⟨rfl, ?_⟩ (by simp)
        rw [take_succ_of ex, List.map_append, List.map_append]
        rfl
      rintro ys H6 ⟨rfl, rfl⟩ p7 hp7
      have ey : (([t.1, t.2].take ([t.1, t.2].map V.int).length).map (at0 (plc n u v))).map V.int = [V.int (at0 (plc n u v) t.1), V.int (at0 (plc n u v) t.2)] := rfl
      rw [ey]
      have nmn := norm_min (at0 (plc n u v) t.1, at0 (plc n u v) t.2)
      have er : renT (plc n u v) t = norm (at0 (plc n u v) t.1, at0 (plc n u v) t.2) := rfl
      rw [er] at eT
      clear er ey
      generalize at0 (plc n u v) t.1 = A1 at nmn eT ⊢
      generalize at0 (plc n u v) t.2 = B1 at nmn eT ⊢
      have s7 := Same.new (o := HO.lst [.int A1, .int B1]) hp7
      have h7 : (upd H6 p7 (.lst [.int A1, .int B1])) p7 = some (.lst [.int A1, .int B1]) := upd_same
      have hg7 := s7 _ _ hg5
      have hl7 := s7 _ _ hl5
      have pz7 := ties_same pz s7
      have sm7 := sm.trans s7
      generalize upd H6 p7 (.lst [.int A1, .int B1]) = H7 at h7 hg7 hl7 pz7 sm7 ⊢
      dsimp only [List.set]
      refine ⟨_, rfl, p7, A1, B1, rfl, SqL.of h7, _, rfl, p7, A1, B1, rfl, SqL.of h7, by show 2 <= sizeLine; decide, fun e he => ?_⟩
      have s8 := Same.new (o := HO.tup [.int (if B1 < A1 then B1 else A1), .int (if B1 > A1 then B1 else A1)]) he
      have h8' : (upd H7 e (.tup [.int (if B1 < A1 then B1 else A1), .int (if B1 > A1 then B1 else A1)])) e = some (.tup [.int (norm (A1, B1)).1, .int (norm (A1, B1)).2]) := by
        rw [<- nmn.1, <- nmn.2]
        exact upd_same
      have hg8 := s8 _ _ hg7
      have hl8 := s8 _ _ hl7
      have pz8 := ties_same pz7 s8
      have sm8 := sm7.trans s8
      generalize upd H7 e (.tup [.int (if B1 < A1 then B1 else A1), .int (if B1 > A1 then B1 else A1)]) = H8 at h8' hg8 hl8 pz8 sm8 ⊢
      have ixk : ixN zs.length k = some k.toNat := by
        unfold ixN
        rw [if_pos k0, if_pos (by lia)]
      refine ⟨_, rfl, _, rfl, g, zs, k, k.toNat, rfl, rfl, hg8, ixk, ⟨_, _, rfl⟩, put_fresh sm8 gN, by rw [upd_ne ngl]; exact hl8, zs.set k.toNat (.ref e), upd_same, ?_⟩
      rw [eT]
      exact ties_put (pair_set k.toNat pz8 ⟨e, rfl, h8'⟩) hg8
    · rintro σ H5 ⟨⟨a6, a7, rfl⟩, sm, hl5, zs, hg5, pz⟩
      rw [List.length_map, List.take_length] at pz
      refine hM _ _ ?_
      refine ⟨_, rfl, c, _, _, _, rfl, rfl, SqT.of (sm _ _ hc), i0, _, rfl, g, zs, rfl, .inl ⟨SqL.of hg5, fun e he => ⟨by show 2 <= sizeLine; decide, fun r hr2 => ?_⟩⟩⟩
      have s6 := Same.new (o := HO.tup zs) he
      have s7 := Same.new (o := HO.tup [.int (n : Int), .ref e]) hr2
      exact q (.ref r) _ (sm.trans (s6.trans s7)) ⟨r, e, zs, rfl, upd_same, s7 _ _ upd_same, ties_same pz (s6.trans s7)⟩
end
def spLaw (K : W.Frag) : Sp := fun vs H Q _ => ∃ (a : Addr) (ns : List Int), vs = [.ref a] /\ SqL K H a (ns.map V.int) /\ ns.length <= 63 /\ ∀ H', Q (.bl true) H'
theorem other_pt {n : Nat} (n2 : 2 <= n) (n9 : n <= 9) {u w : Int} (hu : 0 <= u /\ u < (n : Int)) (hw : 0 <= w /\ w < (n : Int) - 1) : (0 <= (u + 1 + w) % (n : Int) /\ (u + 1 + w) % (n : Int) < (n : Int)) /\ u ≠ (u + 1 + w) % (n : Int) := by
  refine ⟨mod_in _ _ (by lia), ?_⟩
  have m2 : (2 : Int) <= (n : Int) := by lia
  have m9 : (n : Int) <= 9 := by lia
  generalize (n : Int) = m at *
  rcases nine (n := m) (by lia) (by lia) with rfl | rfl | rfl | rfl | rfl | rfl | rfl | rfl | rfl <;> lia
section
variable {P : Program} {w : World} {K : W.Frag} {mg : Str -> Option Value} {base : Heap}
theorem scLaw : FnScope ["_law_script", "_law_first", "_law_web_here", "_law_cell", "_law_u", "_law_v", "_law_pick_here", "_law_due", "_law_many", "_law_mask", "_law_held"] ["_law_script"] (defScope sLaw) := ⟨rfl, rfl, rfl, by decide +kernel, rfl, by decide +kernel, by decide +kernel⟩
theorem ok_law {f : Addr} {fd : FuncData} (F : Fun K "law" "law" sLaw f fd) (T : Txt K mg) (DWb : Def P w K mg base 2 "_law_web" ["_law_script", "_law_few"] (spWeb8 K)) (DA : Def P w K mg base 2 "_law_apart" ["_law_web_here", "_law_u", "_law_v", "_law_load"] (spApart K)) (DT : Def P w K mg base 1 "_law_turned" ["_law_web_here", "_law_pick_here", "_law_u", "_law_v"] (spLTurn K)) (DI : Def P w K mg base 1 "_law_is_web" ["_law_found", "_law_due"] spIsWeb) (DO : Def P w K mg base 4 "turned_over" ["web", "pick", "u", "v"] (spTurn K)) (DP : Def P w K mg base 1 "_law_pick" ["_law_mask", "_law_many"] spPick) (DR : Def P w K mg base 2 "_law_rank" ["_law_web_here", "_law_pick_here"] (spLRank K)) (DK : Def P w K mg base 2 "rank_of" ["web", "pick"] (spRank K)) : FnOk P w K mg base CX0 5 f fd ["_law_script"] (spLaw K) := by
  refine F.ok scLaw (fun vs H Q E h => ?_) (fun cdv A outer s H vs Q E hr h => ?_)
  · obtain ⟨a, ns, rfl, _⟩ := h; rfl
  · obtain ⟨a, ns, rfl, hq, hlen, q⟩ := h
    have hr1 : Room 1 _ := hr.mono (by decide)
    have hr2 : Room 2 _ := hr.mono (by decide)
    refine ⟨_, pss_cons (ps_set (i := 1) scLaw.nd rfl (Or.inl rfl) (pe_def DWb hr2 rfl (pa_cons (pv 0) (pa_cons pe_int pa_nil))))
      (pss_cons (ps_set (i := 2) scLaw.nd rfl (Or.inl rfl) (pv 1))
      (pss_cons (ps_for PassesOwn.never rfl (pi_seqK K .l (pe_slice (sl_listK K) (pv 0) (po_some pe_int) (po_some pe_int))) (pg_name (i := 3) scLaw.nd rfl (Or.inl rfl))
        (pss_cons (ps_set (i := 4) scLaw.nd rfl (Or.inl rfl) (pe_op op_mod (pv 3) (pe_ix (ix_tupK K) (pv 2) pe_int (fun _ _ => rfl))))
        (pss_cons (ps_set (i := 5) scLaw.nd rfl (Or.inl rfl) (pe_op op_mod (pe_op op_add (pe_op op_add (pv 4) pe_int) (pe_op op_mod (pe_op op_fdiv (pv 3) pe_int) (pe_op op_sub (pe_ix (ix_tupK K) (pv 2) pe_int (fun _ _ => rfl)) pe_int))) (pe_ix (ix_tupK K) (pv 2) pe_int (fun _ _ => rfl))))
        (pss_cons (ps_set (i := 6) scLaw.nd rfl (Or.inl rfl) (pe_def DA hr2 rfl (pa_cons (pv 2) (pa_cons (pv 4) (pa_cons (pv 5) (pa_cons (pe_op op_fdiv (pv 3) pe_int) pa_nil))))))
        (pss_cons (ps_set (i := 7) scLaw.nd rfl (Or.inl rfl) (pe_def DT hr1 rfl (pa_cons (pv 2) (pa_cons (pv 6) (pa_cons (pv 4) (pa_cons (pv 5) pa_nil))))))
        (pss_cons (ps_if (PW.pt (pw_or (pt_not (pt_val (pe_def DI hr1 rfl (pa_cons (pe_def DO hr rfl (pa_cons (pv 2) (pa_cons (pv 6) (pa_cons (pv 4) (pa_cons (pv 5) pa_nil))))) (pa_cons (pv 7) pa_nil))))) (pw_or1 (pt_cmpR (op_neSK K (units66 hr)) (pe_def DO hr rfl (pa_cons (pv 7) (pa_cons (pv 6) (pa_cons (pv 5) (pa_cons (pv 4) pa_nil))))) (pv 2) (nomark _))))) (pss_one (ps_ret pe_bl)) pss_nil)
        (pss_one (ps_set (i := 2) scLaw.nd rfl (Or.inl rfl) (pv 7)))))))))
      (pss_cons (ps_set (i := 8) scLaw.nd rfl (Or.inl rfl) (pe_callB (call_lenK K) (by rfl) T.len PySem.boot_len (pa_cons (pe_ix (ix_tupK K) (pv 2) pe_int (fun _ _ => rfl)) pa_nil)))
      (pss_cons (ps_for PassesOwn.never rfl (pi_range1 rfl T.range (pa_cons (pe_op op_shl pe_int (pv 8)) pa_nil)) (pg_name (i := 9) scLaw.nd rfl (Or.inl rfl))
        (pss_cons (ps_set (i := 6) scLaw.nd rfl (Or.inl rfl) (pe_def DP hr1 rfl (pa_cons (pv 9) (pa_cons (pv 8) pa_nil))))
        (pss_cons (ps_set (i := 10) scLaw.nd rfl (Or.inl rfl) (pe_def DR hr2 rfl (pa_cons (pv 1) (pa_cons (pv 6) pa_nil))))
        (pss_one (ps_if (PW.pt (pw_or (pt_cmpR op_ne (pv 10) (pe_def DR hr2 rfl (pa_cons (pv 2) (pa_cons (pv 6) pa_nil))) (nomark _)) (pw_or1 (pt_cmpR op_ne (pv 10) (pe_def DK hr2 rfl (pa_cons (pv 2) (pa_cons (pv 6) pa_nil))) (nomark _))))) (pss_one (ps_ret pe_bl)) pss_nil)))))
      (pss_one (ps_ret pe_bl)))))), ?_⟩
    refine seq_abs fun M hM => ?_
    refine ⟨_, rfl, a, ns, rfl, hq, fun wf n ps H1 s1 W ow n2 n9 h8 => ?_⟩
    refine hM _ _ ?_
    clear hM M
    have n0 : (0 : Int) <= (n : Int) := by lia
    have hb := ow.hb
    have ok : WebOk (n : Int) ps := ⟨⟨by lia, by lia⟩, hb, h8⟩
    refine ⟨_, rfl, ?_⟩
    dsimp only [List.set]
    obtain ⟨ms, em, _⟩ := cut_map ns (some 9) (some 33)
    refine seq_abs fun M hM => ?_
    refine ⟨_, rfl, _, rfl, _, rfl, a, _, rfl, s1.seq hq, fun p1 hp1 => ⟨p1, rfl, ⟨_, SqL.of upd_same⟩, ?_⟩⟩
    rw [em]
    have W2 := W.same (Same.new (o := HO.lst (ms.map V.int)) hp1)
    have hp2 : (upd H1 p1 (.lst (ms.map V.int))) p1 = some (.lst (ms.map V.int)) := upd_same
    generalize upd H1 p1 (.lst (ms.map V.int)) = H2 at W2 hp2 ⊢
    refine for_seq (k := .l) (K := K) (a := p1) (xs := ms.map V.int) (fun i σ H' => ∃ wv a3 a4 a5 a6 a7 qs, σ = [some (.ref a), some wf, some wv, a3, a4, a5, a6, a7, none, none, none] /\ Same H2 H' /\ WebAt H' wv n qs /\ OkW n ps.length qs /\ ∀ A, Ks ps.length A -> cN n ps A = cN n qs A) ⟨wf, _, _, _, _, _, ps, rfl, Same.refl _, W2, ow, fun _ _ => rfl⟩ (fun i σ H' _ ⟨_, _, _, _, _, _, _, _, z, _⟩ => SqL.of (z _ _ hp2)) ?_ ?_
    · rintro i x σ H3 hx ⟨wv, a3, a4, a5, a6, a7, qs, rfl, sm, Wq, oq, cq⟩
      obtain ⟨cell, _, rfl⟩ := get_int' hx
      have qb := oq.hb
      have ql := oq.len
      have qn := oq.nm
      have okq : WebOk (n : Int) qs := ⟨⟨by lia, by lia⟩, qb, by lia⟩
      obtain ⟨c, d, xs, rfl, hc, hd, ht⟩ := id Wq.ex
      have i0 : atI ([.int (n : Int), .ref d] : List V) 0 = some (.int (n : Int)) := atI_nat (j := 0) rfl
      dsimp only [gName, List.set]
      refine ⟨_, rfl, _, rfl, c, _, _, _, rfl, rfl, SqT.of hc, i0, _, _, rfl, rfl, (by show (0 : Int) < (n : Int); lia), ?_⟩
      have hu := mod_in cell (n : Int) (by lia)
      dsimp only [List.set]
      generalize cell % (n : Int) = u at hu ⊢
      refine ⟨_, rfl, _, _, rfl, rfl, _, rfl, _, _, rfl, rfl, ⟨by decide, by decide⟩, _, rfl, c, _, _, _, rfl, rfl, SqT.of hc, i0, _, _, rfl, rfl, _, _, rfl, rfl, (by show (0 : Int) < (n : Int) - 1; lia), _, _, rfl, rfl, _, rfl, c, _, _, _, rfl, rfl, SqT.of hc, i0, _, _, rfl, rfl, (by show (0 : Int) < (n : Int); lia), ?_⟩
      obtain ⟨hv, uv⟩ := other_pt n2 n9 hu (mod_in (cell / 9) ((n : Int) - 1) (by lia))
      dsimp only [List.set]
      generalize (u + 1 + cell / 9 % ((n : Int) - 1)) % (n : Int) = v at hv uv ⊢
      refine ⟨_, rfl, _, rfl, _, rfl, _, rfl, _, _, rfl, rfl, ⟨by decide, by decide⟩, .ref c, n, qs, u, v, cell / 81, rfl, Wq, okq, fun t H4 s4 ht4 => ?_⟩
      have ap := ap_ok (u := u) (v := v) (load := cell / 81) qb
      have ak := ap_ks (n : Int) qs u v (cell / 81)
      have al := ap_len (n : Int) qs u v (cell / 81)
      have an := ap_nd (n : Int) qs u v (cell / 81)
      generalize apP (n : Int) qs u v (cell / 81) = ks at ap ak al an ht4
      dsimp only [List.set]
      refine ⟨_, rfl, _, rfl, _, rfl, _, rfl, .ref c, t, n, qs, ks, u, v, rfl, Wq.same s4, okq, SqT.of ht4, ak, an, hu, hv, fun w5 H5 s5 W5 => ?_⟩
      have s35 := s4.trans s5
      dsimp only [List.set]
      refine ⟨_, rfl, _, rfl, _, rfl, _, rfl, .ref c, t, n, qs, ks, u, v, rfl, Wq.same s35, okq, SqT.of (s5 _ _ ht4), ak, by lia, hu, hv, uv, ap, fun w6 H6 s6 W6 => ?_⟩
      refine ⟨_, rfl, w6, w5, (n : Int), turnP n u v qs ks, rfl, W6, W5.same s6, by rw [turn_len]; lia, fun H7 s7 => ⟨_, rfl, iteF ?_⟩⟩
      have s57 := s6.trans s7
      have W57 := W5.same s57
      have tb := turn_in (ks := ks) n0 qb hu hv uv
      have okt : WebOk (n : Int) (turnP n u v qs ks) := ⟨⟨by lia, by lia⟩, tb, by rw [turn_len]; lia⟩
      refine ⟨_, rfl, _, rfl, _, rfl, _, rfl, w5, t, n, turnP n u v qs ks, ks, v, u, rfl, W57, okt, SqT.of ((s5.trans s57) _ _ ht4), by rw [turn_len]; exact ak, by lia, hv, hu, uv.symm, ap_back n0 qb hu hv uv ak ap, fun w8 H8 s8 W8 => ?_⟩
      rw [turn_back n0 qb hu hv uv qn] at W8
      refine ⟨_, rfl, same_web W8 (Wq.same (s35.trans (s57.trans s8))) ⟨_, rfl, iteF ?_⟩⟩
      refine ⟨_, rfl, w5, _, _, _, _, _, turnP n u v qs ks, rfl, sm.trans (s35.trans (s57.trans s8)), W57.same s8, ⟨tb, turn_nm n0 qb hu hv uv qn, by rw [turn_len]; exact ql⟩, fun A hA => ?_⟩
      rw [cq A hA]
      exact (tw_of n0 qb hu hv uv ak ap).c (by lia) (by lia) (by rw [ql]; exact hA)
    rintro σ H3 ⟨wv, a3, a4, a5, a6, a7, qs, rfl, sm, Wq, oq, cq⟩
    refine hM _ _ ?_
    clear hM M
    have qb := oq.hb
    have ql := oq.len
    have okq : WebOk (n : Int) qs := ⟨⟨by lia, by lia⟩, qb, by lia⟩
    obtain ⟨c, d, xs, rfl, hc, hd, ht⟩ := id Wq.ex
    have xl : xs.length = ps.length := (Paired.length ht).trans ql
    have i1 : atI ([.int (n : Int), .ref d] : List V) 1 = some (.ref d) := atI_nat (j := 1) rfl
    refine seq_abs fun M hM => ?_
    refine ⟨_, rfl, c, _, _, _, rfl, rfl, SqT.of hc, i1, d, xs, rfl, .inr (SqT.of hd), ?_⟩
    rw [xl]
    refine hM _ _ ?_
    clear hM M
    dsimp only [List.set]
    have e2 : (1 : Int) * 2 ^ ((ps.length : Nat) : Int).toNat = ((2 ^ ps.length : Nat) : Int) := by rw [Int.one_mul, Int.toNat_natCast, Int.natCast_pow]; rfl
    have p256 : 2 ^ ps.length <= 256 := Nat.pow_le_pow_right (by decide) h8
    refine seq_abs fun M hM => ?_
    refine ⟨_, rfl, _, _, rfl, rfl, ⟨by lia, by lia, by decide⟩, _, rfl, ?_⟩
    rw [e2]
    have i256 : ((2 ^ ps.length : Nat) : Int) <= 256 := Int.ofNat_le.mpr p256
    have i0 : 0 <= ((2 ^ ps.length : Nat) : Int) := Int.natCast_nonneg _
    refine ⟨by revert i0 i256; generalize ((2 ^ ps.length : Nat) : Int) = z; lia, by revert i0 i256; generalize ((2 ^ ps.length : Nat) : Int) = z; lia, ?_⟩
    have W3 := W2.same sm
    refine for_range (lo := 0) (n := ((2 ^ ps.length : Nat) : Int).toNat) (fun j σ H' => (∃ a6 a9 a10, σ = [some (.ref a), some wf, some (.ref c), a3, a4, a5, a6, a7, some (.int (ps.length : Int)), a9, a10]) /\ Same H3 H') ⟨⟨_, _, _, rfl⟩, Same.refl _⟩ ?_ ?_
    · rintro j σ H4 hj ⟨⟨b6, b9, b10, rfl⟩, s4⟩
      dsimp only [gName, List.set]
      rw [show (0 : Int) + (j : Int) = (j : Int) by lia]
      refine ⟨_, rfl, _, rfl, (j : Int), ps.length, rfl, h8, fun t H5 s5 ht5 => ?_⟩
      have kk := pkB_ks (j : Int) ps.length
      generalize pkB (j : Int) ps.length = ks at kk ht5
      have s45 := s4.trans s5
      dsimp only [List.set]
      refine ⟨_, rfl, _, rfl, wf, t, n, ps, ks, rfl, W3.same s45, ok, SqT.of ht5, kk, fun H6 s6 => ?_⟩
      dsimp only [List.set]
      refine ⟨_, rfl, _, rfl, _, rfl, .ref c, t, n, qs, ks, rfl, Wq.same (s45.trans s6), okq, SqT.of (s6 _ _ ht5), by rw [ql]; exact kk, fun H7 s7 => ⟨rfl, _, rfl, ?_⟩⟩
      rw [cq ks kk]
      have s67 := s6.trans s7
      refine iteNS rfl ⟨_, rfl, _, rfl, _, rfl, .ref c, t, (n : Int), qs, ks, rfl, Wq.same (s45.trans s67), by lia, by lia, qb, SqT.of (s67 _ _ ht5), by rw [ql]; exact kk, fun H8 s8 => ⟨rfl, _, rfl, ?_⟩⟩
      refine iteNS ?_ ⟨⟨_, _, _, rfl⟩, s45.trans (s67.trans s8)⟩
      rfl
    · rintro σ H4 _
      exact hM _ _ (q _)
end
theorem src_mk {K : W.Frag} {h : Heap} {mg : Str -> Option Value} {x : Str} {st : Stmt} {f : Addr} {ps : List Str} {oc : Value} {od an : Option Addr} {osl : Array (Option Value)} {kV doc pm cdv ct : Value} (X : K.In h) (G : h.Ns mainGlobals mg)
    (a : PySem.W.nsIn K mainGlobals x = some (some (.ref f))) (l : K.lookup f = some ⟨oc, od, .func (PySem.W.fnOf x x (defArgs st) (defBody st) (defScope st) .none kV doc pm an cdv ct), osl⟩) (c : PySem.W.codeIn K cdv x = true) (k : PySem.W.keepIn K (.ref f) = true)
    (hb : ∀ (kV doc pm : Value) (an : Option Addr) (cdv ct : Value) (us : List Value), us.length = ps.length -> bindArgs (PySem.W.fnOf x x (defArgs st) (defBody st) (defScope st) .none kV doc pm an cdv ct) ⟨us, []⟩ = pure (ps.zip us)) : Src K mg x st ps :=
  ⟨_, _, fun_mk (st := st) l c k, (fun_mk (st := st) l c k).binds hb, PySem.W.mg_of X G a⟩
theorem lenC {p : List Value -> Prop} {n : Nat} (h : ∀ (a : Value) (us : List Value), us.length = n -> p (a :: us)) : ∀ us : List Value, us.length = n + 1 -> p us := fun us hl => by
  cases us with
  | nil => cases hl
  | cons a us => exact h a us (Nat.succ.inj hl)
theorem len0 {p : List Value -> Prop} (h : p []) : ∀ us : List Value, us.length = 0 -> p us := fun us hl => by
  rw [List.length_eq_zero_iff.mp hl]
  exact h
theorem len1 {p : List Value -> Prop} (h : ∀ a, p [a]) : ∀ us : List Value, us.length = 1 -> p us := lenC fun a => len0 (p := fun us => p (a :: us)) (h a)
theorem len2 {p : List Value -> Prop} (h : ∀ a b, p [a, b]) : ∀ us : List Value, us.length = 2 -> p us := lenC fun a => len1 (p := fun us => p (a :: us)) (h a)
theorem len3 {p : List Value -> Prop} (h : ∀ a b c, p [a, b, c]) : ∀ us : List Value, us.length = 3 -> p us := lenC fun a => len2 (p := fun us => p (a :: us)) (h a)
theorem len4 {p : List Value -> Prop} (h : ∀ a b c d, p [a, b, c, d]) : ∀ us : List Value, us.length = 4 -> p us := lenC fun a => len3 (p := fun us => p (a :: us)) (h a)
theorem all_mk {l : PySem.W.OpenLaw} {w : World} {K : W.Frag} {h : Heap} {mg : Str -> Option Value} {fa : Addr} (X : K.In h) (G : h.Ns mainGlobals mg) (hfa : mg "law" = some (.ref fa))
    {f0 : Addr} {od0 an0 : Option Addr} {sl0 : Array (Option Value)} {oc0 kV0 dc0 pm0 cd0 ct0 : Value}
    (a0 : PySem.W.nsIn K mainGlobals "is_whole" = some (some (.ref f0))) (l0 : K.lookup f0 = some ⟨oc0, od0, .func (PySem.W.fnOf "is_whole" "is_whole" (defArgs sIsWhole) (defBody sIsWhole) (defScope sIsWhole) .none kV0 dc0 pm0 an0 cd0 ct0), sl0⟩) (c0 : PySem.W.codeIn K cd0 "is_whole" = true) (k0 : PySem.W.keepIn K (.ref f0) = true)
    {f1 : Addr} {od1 an1 : Option Addr} {sl1 : Array (Option Value)} {oc1 kV1 dc1 pm1 cd1 ct1 : Value}
    (a1 : PySem.W.nsIn K mainGlobals "is_whole_within" = some (some (.ref f1))) (l1 : K.lookup f1 = some ⟨oc1, od1, .func (PySem.W.fnOf "is_whole_within" "is_whole_within" (defArgs sWithin) (defBody sWithin) (defScope sWithin) .none kV1 dc1 pm1 an1 cd1 ct1), sl1⟩) (c1 : PySem.W.codeIn K cd1 "is_whole_within" = true) (k1 : PySem.W.keepIn K (.ref f1) = true)
    {f2 : Addr} {od2 an2 : Option Addr} {sl2 : Array (Option Value)} {oc2 kV2 dc2 pm2 cd2 ct2 : Value}
    (a2 : PySem.W.nsIn K mainGlobals "lesser_first" = some (some (.ref f2))) (l2 : K.lookup f2 = some ⟨oc2, od2, .func (PySem.W.fnOf "lesser_first" "lesser_first" (defArgs sLesser) (defBody sLesser) (defScope sLesser) .none kV2 dc2 pm2 an2 cd2 ct2), sl2⟩) (c2 : PySem.W.codeIn K cd2 "lesser_first" = true) (k2 : PySem.W.keepIn K (.ref f2) = true)
    {f3 : Addr} {od3 an3 : Option Addr} {sl3 : Array (Option Value)} {oc3 kV3 dc3 pm3 cd3 ct3 : Value}
    (a3 : PySem.W.nsIn K mainGlobals "refuse_no_point_of" = some (some (.ref f3))) (l3 : K.lookup f3 = some ⟨oc3, od3, .func (PySem.W.fnOf "refuse_no_point_of" "refuse_no_point_of" (defArgs sNoPt) (defBody sNoPt) (defScope sNoPt) .none kV3 dc3 pm3 an3 cd3 ct3), sl3⟩) (c3 : PySem.W.codeIn K cd3 "refuse_no_point_of" = true) (k3 : PySem.W.keepIn K (.ref f3) = true)
    {f4 : Addr} {od4 an4 : Option Addr} {sl4 : Array (Option Value)} {oc4 kV4 dc4 pm4 cd4 ct4 : Value}
    (a4 : PySem.W.nsIn K mainGlobals "whole_pick" = some (some (.ref f4))) (l4 : K.lookup f4 = some ⟨oc4, od4, .func (PySem.W.fnOf "whole_pick" "whole_pick" (defArgs sWhole) (defBody sWhole) (defScope sWhole) .none kV4 dc4 pm4 an4 cd4 ct4), sl4⟩) (c4 : PySem.W.codeIn K cd4 "whole_pick" = true) (k4 : PySem.W.keepIn K (.ref f4) = true)
    {f5 : Addr} {od5 an5 : Option Addr} {sl5 : Array (Option Value)} {oc5 kV5 dc5 pm5 cd5 ct5 : Value}
    (a5 : PySem.W.nsIn K mainGlobals "ties_at" = some (some (.ref f5))) (l5 : K.lookup f5 = some ⟨oc5, od5, .func (PySem.W.fnOf "ties_at" "ties_at" (defArgs sTiesAt) (defBody sTiesAt) (defScope sTiesAt) .none kV5 dc5 pm5 an5 cd5 ct5), sl5⟩) (c5 : PySem.W.codeIn K cd5 "ties_at" = true) (k5 : PySem.W.keepIn K (.ref f5) = true)
    {f6 : Addr} {od6 an6 : Option Addr} {sl6 : Array (Option Value)} {oc6 kV6 dc6 pm6 cd6 ct6 : Value}
    (a6 : PySem.W.nsIn K mainGlobals "turned_over" = some (some (.ref f6))) (l6 : K.lookup f6 = some ⟨oc6, od6, .func (PySem.W.fnOf "turned_over" "turned_over" (defArgs sTurn) (defBody sTurn) (defScope sTurn) .none kV6 dc6 pm6 an6 cd6 ct6), sl6⟩) (c6 : PySem.W.codeIn K cd6 "turned_over" = true) (k6 : PySem.W.keepIn K (.ref f6) = true)
    {f7 : Addr} {od7 an7 : Option Addr} {sl7 : Array (Option Value)} {oc7 kV7 dc7 pm7 cd7 ct7 : Value}
    (a7 : PySem.W.nsIn K mainGlobals "refuse_not_apart" = some (some (.ref f7))) (l7 : K.lookup f7 = some ⟨oc7, od7, .func (PySem.W.fnOf "refuse_not_apart" "refuse_not_apart" (defArgs sNotAp) (defBody sNotAp) (defScope sNotAp) .none kV7 dc7 pm7 an7 cd7 ct7), sl7⟩) (c7 : PySem.W.codeIn K cd7 "refuse_not_apart" = true) (k7 : PySem.W.keepIn K (.ref f7) = true)
    {f8 : Addr} {od8 an8 : Option Addr} {sl8 : Array (Option Value)} {oc8 kV8 dc8 pm8 cd8 ct8 : Value}
    (a8 : PySem.W.nsIn K mainGlobals "is_end_in" = some (some (.ref f8))) (l8 : K.lookup f8 = some ⟨oc8, od8, .func (PySem.W.fnOf "is_end_in" "is_end_in" (defArgs sEndIn) (defBody sEndIn) (defScope sEndIn) .none kV8 dc8 pm8 an8 cd8 ct8), sl8⟩) (c8 : PySem.W.codeIn K cd8 "is_end_in" = true) (k8 : PySem.W.keepIn K (.ref f8) = true)
    {f9 : Addr} {od9 an9 : Option Addr} {sl9 : Array (Option Value)} {oc9 kV9 dc9 pm9 cd9 ct9 : Value}
    (a9 : PySem.W.nsIn K mainGlobals "heads_of" = some (some (.ref f9))) (l9 : K.lookup f9 = some ⟨oc9, od9, .func (PySem.W.fnOf "heads_of" "heads_of" (defArgs sHeads) (defBody sHeads) (defScope sHeads) .none kV9 dc9 pm9 an9 cd9 ct9), sl9⟩) (c9 : PySem.W.codeIn K cd9 "heads_of" = true) (k9 : PySem.W.keepIn K (.ref f9) = true)
    {f10 : Addr} {od10 an10 : Option Addr} {sl10 : Array (Option Value)} {oc10 kV10 dc10 pm10 cd10 ct10 : Value}
    (a10 : PySem.W.nsIn K mainGlobals "rank_of" = some (some (.ref f10))) (l10 : K.lookup f10 = some ⟨oc10, od10, .func (PySem.W.fnOf "rank_of" "rank_of" (defArgs sRank) (defBody sRank) (defScope sRank) .none kV10 dc10 pm10 an10 cd10 ct10), sl10⟩) (c10 : PySem.W.codeIn K cd10 "rank_of" = true) (k10 : PySem.W.keepIn K (.ref f10) = true)
    {f11 : Addr} {od11 an11 : Option Addr} {sl11 : Array (Option Value)} {oc11 kV11 dc11 pm11 cd11 ct11 : Value}
    (a11 : PySem.W.nsIn K mainGlobals "_law_at" = some (some (.ref f11))) (l11 : K.lookup f11 = some ⟨oc11, od11, .func (PySem.W.fnOf "_law_at" "_law_at" (defArgs sAt) (defBody sAt) (defScope sAt) .none kV11 dc11 pm11 an11 cd11 ct11), sl11⟩) (c11 : PySem.W.codeIn K cd11 "_law_at" = true) (k11 : PySem.W.keepIn K (.ref f11) = true)
    {f12 : Addr} {od12 an12 : Option Addr} {sl12 : Array (Option Value)} {oc12 kV12 dc12 pm12 cd12 ct12 : Value}
    (a12 : PySem.W.nsIn K mainGlobals "_law_web" = some (some (.ref f12))) (l12 : K.lookup f12 = some ⟨oc12, od12, .func (PySem.W.fnOf "_law_web" "_law_web" (defArgs sWeb) (defBody sWeb) (defScope sWeb) .none kV12 dc12 pm12 an12 cd12 ct12), sl12⟩) (c12 : PySem.W.codeIn K cd12 "_law_web" = true) (k12 : PySem.W.keepIn K (.ref f12) = true)
    {f13 : Addr} {od13 an13 : Option Addr} {sl13 : Array (Option Value)} {oc13 kV13 dc13 pm13 cd13 ct13 : Value}
    (a13 : PySem.W.nsIn K mainGlobals "_law_marks" = some (some (.ref f13))) (l13 : K.lookup f13 = some ⟨oc13, od13, .func (PySem.W.fnOf "_law_marks" "_law_marks" (defArgs sMarks) (defBody sMarks) (defScope sMarks) .none kV13 dc13 pm13 an13 cd13 ct13), sl13⟩) (c13 : PySem.W.codeIn K cd13 "_law_marks" = true) (k13 : PySem.W.keepIn K (.ref f13) = true)
    {f14 : Addr} {od14 an14 : Option Addr} {sl14 : Array (Option Value)} {oc14 kV14 dc14 pm14 cd14 ct14 : Value}
    (a14 : PySem.W.nsIn K mainGlobals "_law_rank" = some (some (.ref f14))) (l14 : K.lookup f14 = some ⟨oc14, od14, .func (PySem.W.fnOf "_law_rank" "_law_rank" (defArgs sLRank) (defBody sLRank) (defScope sLRank) .none kV14 dc14 pm14 an14 cd14 ct14), sl14⟩) (c14 : PySem.W.codeIn K cd14 "_law_rank" = true) (k14 : PySem.W.keepIn K (.ref f14) = true)
    {f15 : Addr} {od15 an15 : Option Addr} {sl15 : Array (Option Value)} {oc15 kV15 dc15 pm15 cd15 ct15 : Value}
    (a15 : PySem.W.nsIn K mainGlobals "_law_pick" = some (some (.ref f15))) (l15 : K.lookup f15 = some ⟨oc15, od15, .func (PySem.W.fnOf "_law_pick" "_law_pick" (defArgs sPick) (defBody sPick) (defScope sPick) .none kV15 dc15 pm15 an15 cd15 ct15), sl15⟩) (c15 : PySem.W.codeIn K cd15 "_law_pick" = true) (k15 : PySem.W.keepIn K (.ref f15) = true)
    {f16 : Addr} {od16 an16 : Option Addr} {sl16 : Array (Option Value)} {oc16 kV16 dc16 pm16 cd16 ct16 : Value}
    (a16 : PySem.W.nsIn K mainGlobals "_law_apart" = some (some (.ref f16))) (l16 : K.lookup f16 = some ⟨oc16, od16, .func (PySem.W.fnOf "_law_apart" "_law_apart" (defArgs sApart) (defBody sApart) (defScope sApart) .none kV16 dc16 pm16 an16 cd16 ct16), sl16⟩) (c16 : PySem.W.codeIn K cd16 "_law_apart" = true) (k16 : PySem.W.keepIn K (.ref f16) = true)
    {f17 : Addr} {od17 an17 : Option Addr} {sl17 : Array (Option Value)} {oc17 kV17 dc17 pm17 cd17 ct17 : Value}
    (a17 : PySem.W.nsIn K mainGlobals "_law_turned" = some (some (.ref f17))) (l17 : K.lookup f17 = some ⟨oc17, od17, .func (PySem.W.fnOf "_law_turned" "_law_turned" (defArgs sLTurn) (defBody sLTurn) (defScope sLTurn) .none kV17 dc17 pm17 an17 cd17 ct17), sl17⟩) (c17 : PySem.W.codeIn K cd17 "_law_turned" = true) (k17 : PySem.W.keepIn K (.ref f17) = true)
    {f18 : Addr} {od18 an18 : Option Addr} {sl18 : Array (Option Value)} {oc18 kV18 dc18 pm18 cd18 ct18 : Value}
    (a18 : PySem.W.nsIn K mainGlobals "_law_is_web" = some (some (.ref f18))) (l18 : K.lookup f18 = some ⟨oc18, od18, .func (PySem.W.fnOf "_law_is_web" "_law_is_web" (defArgs sIsWeb) (defBody sIsWeb) (defScope sIsWeb) .none kV18 dc18 pm18 an18 cd18 ct18), sl18⟩) (c18 : PySem.W.codeIn K cd18 "_law_is_web" = true) (k18 : PySem.W.keepIn K (.ref f18) = true)
    {f19 : Addr} {od19 an19 : Option Addr} {sl19 : Array (Option Value)} {oc19 kV19 dc19 pm19 cd19 ct19 : Value}
    (a19 : PySem.W.nsIn K mainGlobals "law" = some (some (.ref f19))) (l19 : K.lookup f19 = some ⟨oc19, od19, .func (PySem.W.fnOf "law" "law" (defArgs sLaw) (defBody sLaw) (defScope sLaw) .none kV19 dc19 pm19 an19 cd19 ct19), sl19⟩) (c19 : PySem.W.codeIn K cd19 "law" = true) (k19 : PySem.W.keepIn K (.ref f19) = true)
    (z0 : PySem.W.nsIn K mainGlobals "isinstance" = some none)
    (z1 : PySem.W.nsIn K mainGlobals "int" = some none)
    (z2 : PySem.W.nsIn K mainGlobals "bool" = some none)
    (z3 : PySem.W.nsIn K mainGlobals "len" = some none)
    (z4 : PySem.W.nsIn K mainGlobals "tuple" = some none)
    (z5 : PySem.W.nsIn K mainGlobals "all" = some none)
    (z6 : PySem.W.nsIn K mainGlobals "list" = some none)
    (z7 : PySem.W.nsIn K mainGlobals "min" = some none)
    (z8 : PySem.W.nsIn K mainGlobals "max" = some none)
    (z9 : PySem.W.nsIn K mainGlobals "range" = some none)
    (z10 : PySem.W.nsIn K mainGlobals "set" = some none)
    (z11 : PySem.W.nsIn K mainGlobals "sorted" = some none)
    (z12 : PySem.W.nsIn K mainGlobals "enumerate" = some none)
    (z13 : PySem.W.nsIn K mainGlobals "any" = some none)
    : ∃ fd : FuncData, (∀ (s : Shared) (v : Value), BindsTo s fd ⟨[v], []⟩ [("_law_script", v)]) /\ ∀ base : Heap, K.In base -> base.Ns mainGlobals mg -> FnOk l.prog w K mg base CX0 5 fa fd ["_law_script"] (spLaw K) := by
  have e := hfa.symm.trans (PySem.W.mg_of X G a19)
  cases e
  have S0 : Src K mg "is_whole" sIsWhole ["thing"] := src_mk X G a0 l0 c0 k0 fun _ _ _ _ _ _ => len1 (fun _ => rfl)
  have S1 : Src K mg "is_whole_within" sWithin ["thing", "least", "greatest"] := src_mk X G a1 l1 c1 k1 fun _ _ _ _ _ _ => len3 (fun _ _ _ => rfl)
  have S2 : Src K mg "lesser_first" sLesser ["a", "b"] := src_mk X G a2 l2 c2 k2 fun _ _ _ _ _ _ => len2 (fun _ _ => rfl)
  have S3 : Src K mg "refuse_no_point_of" sNoPt ["web", "point"] := src_mk X G a3 l3 c3 k3 fun _ _ _ _ _ _ => len2 (fun _ _ => rfl)
  have S4 : Src K mg "whole_pick" sWhole ["web"] := src_mk X G a4 l4 c4 k4 fun _ _ _ _ _ _ => len1 (fun _ => rfl)
  have S5 : Src K mg "ties_at" sTiesAt ["ties", "places"] := src_mk X G a5 l5 c5 k5 fun _ _ _ _ _ _ => len2 (fun _ _ => rfl)
  have S6 : Src K mg "turned_over" sTurn ["web", "pick", "u", "v"] := src_mk X G a6 l6 c6 k6 fun _ _ _ _ _ _ => len4 (fun _ _ _ _ => rfl)
  have S7 : Src K mg "refuse_not_apart" sNotAp ["web", "pick", "u", "v"] := src_mk X G a7 l7 c7 k7 fun _ _ _ _ _ _ => len4 (fun _ _ _ _ => rfl)
  have S8 : Src K mg "is_end_in" sEndIn ["web", "ties", "point"] := src_mk X G a8 l8 c8 k8 fun _ _ _ _ _ _ => len3 (fun _ _ _ => rfl)
  have S9 : Src K mg "heads_of" sHeads ["web", "pick"] := src_mk X G a9 l9 c9 k9 fun _ _ _ _ _ _ => len2 (fun _ _ => rfl)
  have S10 : Src K mg "rank_of" sRank ["web", "pick"] := src_mk X G a10 l10 c10 k10 fun _ _ _ _ _ _ => len2 (fun _ _ => rfl)
  have S11 : Src K mg "_law_at" sAt ["_law_script", "_law_k"] := src_mk X G a11 l11 c11 k11 fun _ _ _ _ _ _ => len2 (fun _ _ => rfl)
  have S12 : Src K mg "_law_web" sWeb ["_law_script", "_law_few"] := src_mk X G a12 l12 c12 k12 fun _ _ _ _ _ _ => len2 (fun _ _ => rfl)
  have S13 : Src K mg "_law_marks" sMarks ["_law_web_here", "_law_pick_here"] := src_mk X G a13 l13 c13 k13 fun _ _ _ _ _ _ => len2 (fun _ _ => rfl)
  have S14 : Src K mg "_law_rank" sLRank ["_law_web_here", "_law_pick_here"] := src_mk X G a14 l14 c14 k14 fun _ _ _ _ _ _ => len2 (fun _ _ => rfl)
  have S15 : Src K mg "_law_pick" sPick ["_law_mask", "_law_many"] := src_mk X G a15 l15 c15 k15 fun _ _ _ _ _ _ => len2 (fun _ _ => rfl)
  have S16 : Src K mg "_law_apart" sApart ["_law_web_here", "_law_u", "_law_v", "_law_load"] := src_mk X G a16 l16 c16 k16 fun _ _ _ _ _ _ => len4 (fun _ _ _ _ => rfl)
  have S17 : Src K mg "_law_turned" sLTurn ["_law_web_here", "_law_pick_here", "_law_u", "_law_v"] := src_mk X G a17 l17 c17 k17 fun _ _ _ _ _ _ => len4 (fun _ _ _ _ => rfl)
  have S18 : Src K mg "_law_is_web" sIsWeb ["_law_found", "_law_due"] := src_mk X G a18 l18 c18 k18 fun _ _ _ _ _ _ => len2 (fun _ _ => rfl)
  have T : Txt K mg := ⟨PySem.W.mg_none_of X G z0, PySem.W.mg_none_of X G z1, PySem.W.mg_none_of X G z2, PySem.W.mg_none_of X G z3, PySem.W.mg_none_of X G z4, PySem.W.mg_none_of X G z5, PySem.W.mg_none_of X G z6, PySem.W.mg_none_of X G z7, PySem.W.mg_none_of X G z8, PySem.W.mg_none_of X G z9, PySem.W.mg_none_of X G z10, PySem.W.mg_none_of X G z11⟩
  have henum : mg "enumerate" = none := PySem.W.mg_none_of X G z12
  have hany : mg "any" = none := PySem.W.mg_none_of X G z13
  refine ⟨PySem.W.fnOf "law" "law" (defArgs sLaw) (defBody sLaw) (defScope sLaw) .none kV19 dc19 pm19 an19 cd19 ct19, fun s v => .of_eq rfl, fun base _ _ => ?_⟩
  have D0 : Def l.prog w K mg base 1 _ _ _ := d_wholeI T S0
  have D1 : Def l.prog w K mg base 2 _ _ _ := d_withI S1 D0
  have D3 : Def l.prog w K mg base 3 _ _ _ := d_nopt S3 D1
  have D2 : Def l.prog w K mg base 1 _ _ _ := d_less S2
  have D5 : Def l.prog w K mg base 2 _ _ _ := d_tiesat T S5 D2
  have D4 : Def l.prog w K mg base 1 _ _ _ := d_wp T S4
  have D8 : Def l.prog w K mg base 1 _ _ _ := d_endin hany S8
  have D7 : Def l.prog w K mg base 2 _ _ _ := d_notap T S7 D4 D8
  have D6 : Def l.prog w K mg base 4 _ _ _ := d_turn T S6 D3 D7 D5 D4
  have D9 : Def l.prog w K mg base 1 _ _ _ := d_heads T S9
  have D10 : Def l.prog w K mg base 2 _ _ _ := d_rank T T.set S10 D9
  have D11 : Def l.prog w K mg base 1 _ _ _ := d_at T S11
  have D12 : Def l.prog w K mg base 2 _ _ _ := d_web T S12 D11
  have D13 : Def l.prog w K mg base 1 _ _ _ := d_marks T S13
  have D14 : Def l.prog w K mg base 2 _ _ _ := d_lrank T T.set S14 D13
  have D15 : Def l.prog w K mg base 1 _ _ _ := d_pick T S15
  have D16 : Def l.prog w K mg base 2 _ _ _ := d_apart T henum S16 D13
  have D17 : Def l.prog w K mg base 1 _ _ _ := d_lturn T S17
  have D18 : Def l.prog w K mg base 1 _ _ _ := d_isweb T S18
  exact ok_law (fun_mk (st := sLaw) l19 c19 k19) T D12 D16 D17 D18 D6 D15 D14 D10
theorem walk {l : PySem.W.OpenLaw} {q : Program} {loose : List Str} {XP : (Str -> Option Value) -> Heap -> Prop} {YP : World -> Heap -> Prop} {d : DefRec} {K : Params -> PySem.W.Frag} (hn : l.most = some 63) (hdf : d.params.defaults = [])
    (hY : ∀ (w : World) (h : Heap), YP w h -> (K w.params).In h)
    (F : ∀ (w : World) (mg : Str -> Option Value) (fa : Addr) (h : Heap), (K w.params).In h -> h.Ns mainGlobals mg -> mg d.name = some (.ref fa) ->
      ∃ fd : FuncData, (∀ (s : Shared) (u : Value), BindsTo s fd ⟨[u], []⟩ [("_law_script", u)]) /\ ∀ base : Heap, (K w.params).In base -> base.Ns mainGlobals mg -> FnOk l.prog w (K w.params) mg base CX0 5 fa fd ["_law_script"] (spLaw (K w.params))) :
    PySem.W.WalkO q loose XP YP l.row.toRowW d [] (fun f vs => PySem.call f vs) :=
  L2.walk_of (n := 63) (k := 5) (x := "_law_script") (CX := fun _ => CX0) (sp := fun w => spLaw (K w.params)) hn (by decide) hdf ⟨rfl, by decide, by decide⟩ hY F (fun _ _ a ns hl _ hS => ⟨a, ns, rfl, hS, hl, fun _ => rfl⟩) fun _ _ _ _ _ z => z
end My
open PySem PySem.W PyProof.Rows
set_option maxRecDepth 100000 in
set_option maxHeartbeats 0 in
theorem PySem.Challenge.cw_manycounts_k83_turned_over_holds : PySem.Challenge.rw_manycounts_k83_turned_over.Holds := by
  w_on; o_law; k_head; (case hw => w_witness2)
  k_fill
  refine My.walk (l := PySem.Challenge.rw_manycounts_k83_turned_over) rfl rfl (fun w h Y => PySem.W.kIn_of Y) ?F
  case F =>
    intro w mg fa h KX G hmg
    refine' My.all_mk KX G hmg ?a0 ?l0 ?c0 ?k0 ?a1 ?l1 ?c1 ?k1 ?a2 ?l2 ?c2 ?k2 ?a3 ?l3 ?c3 ?k3 ?a4 ?l4 ?c4 ?k4 ?a5 ?l5 ?c5 ?k5 ?a6 ?l6 ?c6 ?k6 ?a7 ?l7 ?c7 ?k7 ?a8 ?l8 ?c8 ?k8 ?a9 ?l9 ?c9 ?k9 ?a10 ?l10 ?c10 ?k10 ?a11 ?l11 ?c11 ?k11 ?a12 ?l12 ?c12 ?k12 ?a13 ?l13 ?c13 ?k13 ?a14 ?l14 ?c14 ?k14 ?a15 ?l15 ?c15 ?k15 ?a16 ?l16 ?c16 ?k16 ?a17 ?l17 ?c17 ?k17 ?a18 ?l18 ?c18 ?k18 ?a19 ?l19 ?c19 ?k19 ?z0 ?z1 ?z2 ?z3 ?z4 ?z5 ?z6 ?z7 ?z8 ?z9 ?z10 ?z11 ?z12 ?z13
    (case a0 => k_is); (case l0 => k_is); (case c0 => k_is); (case k0 => k_is)
    (case a1 => k_is); (case l1 => k_is); (case c1 => k_is); (case k1 => k_is)
    (case a2 => k_is); (case l2 => k_is); (case c2 => k_is); (case k2 => k_is)
    (case a3 => k_is); (case l3 => k_is); (case c3 => k_is); (case k3 => k_is)
    (case a4 => k_is); (case l4 => k_is); (case c4 => k_is); (case k4 => k_is)
    (case a5 => k_is); (case l5 => k_is); (case c5 => k_is); (case k5 => k_is)
    (case a6 => k_is); (case l6 => k_is); (case c6 => k_is); (case k6 => k_is)
    (case a7 => k_is); (case l7 => k_is); (case c7 => k_is); (case k7 => k_is)
    (case a8 => k_is); (case l8 => k_is); (case c8 => k_is); (case k8 => k_is)
    (case a9 => k_is); (case l9 => k_is); (case c9 => k_is); (case k9 => k_is)
    (case a10 => k_is); (case l10 => k_is); (case c10 => k_is); (case k10 => k_is)
    (case a11 => k_is); (case l11 => k_is); (case c11 => k_is); (case k11 => k_is)
    (case a12 => k_is); (case l12 => k_is); (case c12 => k_is); (case k12 => k_is)
    (case a13 => k_is); (case l13 => k_is); (case c13 => k_is); (case k13 => k_is)
    (case a14 => k_is); (case l14 => k_is); (case c14 => k_is); (case k14 => k_is)
    (case a15 => k_is); (case l15 => k_is); (case c15 => k_is); (case k15 => k_is)
    (case a16 => k_is); (case l16 => k_is); (case c16 => k_is); (case k16 => k_is)
    (case a17 => k_is); (case l17 => k_is); (case c17 => k_is); (case k17 => k_is)
    (case a18 => k_is); (case l18 => k_is); (case c18 => k_is); (case k18 => k_is)
    (case a19 => k_is); (case l19 => k_is); (case c19 => k_is); (case k19 => k_is)
    (case z0 => k_is); (case z1 => k_is); (case z2 => k_is); (case z3 => k_is)
    (case z4 => k_is); (case z5 => k_is); (case z6 => k_is); (case z7 => k_is)
    (case z8 => k_is); (case z9 => k_is); (case z10 => k_is); (case z11 => k_is)
    (case z12 => k_is); (case z13 => k_is)
