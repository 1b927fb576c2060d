import PyProof.Rows.All
import Wide.All
import OpenK.AllK
import Wide.FinOn
import Lean
import PyProof.EqAt
import PyProof.EqKinds
import PyProof.TupleCall
import KE.KIsAll
import PyProof.DictItems
import KE.KPairComp
import KE.KSortTup
import KE.IntBitsLaws
import KE.KRevIter
import PySem.Challenge.RW_manycounts_k66_scores
set_option Elab.async false
set_option linter.all false
set_option maxRecDepth 100000
set_option maxHeartbeats 4000000
namespace L2
open PySem PySem.Spec PyProof.Rows
abbrev Key := Sum Int Str
def keyIs : Key -> Value -> Bool
  | .inl k, v => Value.isInt k v
  | .inr x, v => Value.isStrOf x v
def keyH (w : World) : Key -> Int
  | .inl k => hashInt k
  | .inr x => hashStr w x
theorem keyIs_shape : ∀ {k : Key} {v : Value}, keyIs k v = true -> (∃ i t, k = Sum.inl i /\ v = Value.int i t) \/ (∃ x t, k = Sum.inr x /\ v = Value.str x t)
  | .inl i, v, h => by
    obtain ⟨t, e⟩ := Value.isInt_shape (k := i) (v := v) h
    exact .inl ⟨i, t, rfl, e⟩
  | .inr x, v, h => by
    obtain ⟨t, e⟩ := Value.isStrOf_shape (x := x) (v := v) h
    exact .inr ⟨x, t, rfl, e⟩
theorem key_ll (a b : Int) : decide ((Sum.inl a : Key) = Sum.inl b) = (a == b) := by
  by_cases e : a = b
  · subst e; simp
  · have h : ¬ (Sum.inl a : Key) = Sum.inl b := fun q => e (Sum.inl.inj q)
    rw [decide_eq_false h]
    exact (beq_eq_false_iff_ne.mpr e).symm
theorem key_rr (a b : Str) : decide ((Sum.inr a : Key) = Sum.inr b) = decide (a = b) := by
  by_cases e : a = b
  · subst e; simp
  · have h : ¬ (Sum.inr a : Key) = Sum.inr b := fun q => e (Sum.inr.inj q)
    rw [decide_eq_false h, decide_eq_false e]
theorem key_lr (a : Int) (b : Str) : decide ((Sum.inl a : Key) = Sum.inr b) = false := decide_eq_false (fun q => nomatch q)
theorem key_rl (a : Str) (b : Int) : decide ((Sum.inr a : Key) = Sum.inl b) = false := decide_eq_false (fun q => nomatch q)
def mixKind (prog : Program) (w : World) : PySem.KeyKind prog w Key where
  is := keyIs
  hash := keyH w
  inj := fun v a b ha hb => by
    rcases keyIs_shape ha with ⟨i, t, rfl, rfl⟩ | ⟨x, t, rfl, rfl⟩
    · rcases keyIs_shape hb with ⟨j, u, rfl, e⟩ | ⟨y, u, rfl, e⟩
      · injection e with e1 _; rw [e1]
      · exact nomatch e
    · rcases keyIs_shape hb with ⟨j, u, rfl, e⟩ | ⟨y, u, rfl, e⟩
      · exact nomatch e
      · injection e with e1 _; rw [e1]
  byValue := fun k v h => by
    rcases keyIs_shape h with ⟨i, t, rfl, rfl⟩ | ⟨x, t, rfl, rfl⟩ <;> rfl
  pyHash := fun hv h => by
    rcases keyIs_shape hv with ⟨i, t, rfl, rfl⟩ | ⟨x, t, rfl, rfl⟩
    · exact wpAny_pyHash_int h
    · exact wpAny_pyHash_str h
  eqBool := fun hu hv h => by
    rcases keyIs_shape hu with ⟨i, t, rfl, rfl⟩ | ⟨x, t, rfl, rfl⟩
    · rcases keyIs_shape hv with ⟨j, u, rfl, rfl⟩ | ⟨y, u, rfl, rfl⟩
      · rw [key_ll] at h; exact wpAny_eqBool_int h
      · rw [key_lr] at h; exact SeqAt.EqAt.int_str i t y u _ _ _ _ h
    · rcases keyIs_shape hv with ⟨j, u, rfl, rfl⟩ | ⟨y, u, rfl, rfl⟩
      · rw [key_rl] at h; exact SeqAt.EqAt.str_int x t j u _ _ _ _ h
      · rw [key_rr] at h; exact wpAny_eqBool_str h
  «strs» := fun k x t v h => by
    rcases keyIs_shape h with ⟨i, u, rfl, e⟩ | ⟨y, u, rfl, e⟩
    · exact nomatch e
    · injection e with e1 _
      subst e1
      cases v <;> rfl
inductive V where
  | non | bl (b : Bool) | int (i : Int) | str (x : Str) | byt (b : Array UInt8) | flt (b : UInt64) | ref (a : Addr) | ty (n : String)
  deriving DecidableEq
def RelV : V -> Value -> Prop
  | .non, u => u = Value.none
  | .bl b, u => u = Value.bool b
  | .int i, u => ∃ t, u = Value.int i t
  | .str x, u => ∃ t, u = Value.str x t
  | .byt b, u => ∃ t, u = Value.bytes b t
  | .flt b, u => ∃ t, u = Value.float b t
  | .ref a, u => u = Value.ref a
  | .ty n, u => u = Value.type n
abbrev Vals : List V -> List Value -> Prop := Paired RelV
theorem Vals.length {xs : List V} {us : List Value} (r : Vals xs us) : xs.length = us.length := Paired.length r
theorem Vals.get : ∀ {xs : List V} {us : List Value} {i : Nat} {x : V}, Vals xs us -> xs[i]? = some x -> ∃ u, us[i]? = some u /\ RelV x u
  | _, _, _, _, .nil, e => by simp at e
  | _, _, 0, _, .cons r _, e => by simp at e; subst e; exact ⟨_, rfl, r⟩
  | _, _, i + 1, x, .cons _ t, e => by
    obtain ⟨u, h1, h2⟩ := Vals.get (i := i) (x := x) t (by simpa using e)
    exact ⟨u, by simpa using h1, h2⟩
theorem Vals.set {x : V} {u : Value} (r : RelV x u) : ∀ {xs : List V} {us : List Value} (i : Nat), Vals xs us -> Vals (xs.set i x) (us.set i u)
  | _, _, _, .nil => .nil
  | _, _, 0, .cons _ t => .cons r t
  | _, _, i + 1, .cons q t => .cons q (Vals.set r i t)
theorem Vals.append : ∀ {xs ys : List V} {us ws : List Value}, Vals xs us -> Vals ys ws -> Vals (xs ++ ys) (us ++ ws)
  | _, _, _, _, .nil, s => s
  | _, _, _, _, .cons r t, s => .cons r (Vals.append t s)
theorem Vals.take : ∀ {xs : List V} {us : List Value} (n : Nat), Vals xs us -> Vals (xs.take n) (us.take n)
  | _, _, 0, _ => .nil
  | _, _, _ + 1, .nil => .nil
  | _, _, n + 1, .cons r t => .cons r (Vals.take n t)
theorem Vals.drop : ∀ {xs : List V} {us : List Value} (n : Nat), Vals xs us -> Vals (xs.drop n) (us.drop n)
  | _, _, 0, r => r
  | _, _, _ + 1, .nil => .nil
  | _, _, n + 1, .cons _ t => Vals.drop n t
def RelO : Option V -> Option Value -> Prop
  | some v, some u => RelV v u
  | none, none => True
  | _, _ => False
def KV {κ : Type} : List (κ × V) -> List (κ × Value) -> Prop := Paired fun (p : κ × V) (q : κ × Value) => p.1 = q.1 /\ RelV p.2 q.2
def kV : Key -> V
  | .inl i => .int i
  | .inr x => .str x
inductive HO where
    | lst (xs : List V)
    | tup (xs : List V)
    | dK (kvs : List (Key × V)) | dT (kvs : List (List Key × V))
    | set (S : Int -> Bool) (n : Nat)
    | ins (C dx : Addr) (fs : List (Str × V))
    | own (x : Addr)
    | xd (fs : List (Str × V))
    | met (f x : Addr)
    | rng (lo hi : Int)
    | frz (o : Obj) (u : HO)
    | tbl (ps : Array Value)
    | ext (φ : Heap -> Prop)
abbrev Hp := Addr -> Option HO
def upd (H : Hp) (a : Addr) (o : HO) : Hp := fun b => if b = a then some o else H b
theorem upd_same {H : Hp} {a : Addr} {o : HO} : upd H a o a = some o := by unfold upd; rw [if_pos rfl]
theorem upd_ne {H : Hp} {a b : Addr} {o : HO} (h : b ≠ a) : upd H a o b = H b := by unfold upd; rw [if_neg h]
theorem ne_of {H : Hp} {a b : Addr} {o u : HO} (h : H a = some o) (h' : H b = some u) (d : o ≠ u) : a ≠ b := by
  intro e; subst e; rw [h] at h'; exact d (Option.some.inj h')
theorem ne_of_none {H : Hp} {a b : Addr} {o : HO} (h : H a = some o) (h' : H b = none) : a ≠ b := by
  intro e; subst e; rw [h] at h'; cases h'
section
variable (P : Program) (w : World)
def ObjOk (H : Hp) (h : Heap) (a : Addr) : HO -> Prop
  | .lst xs => xs.length <= sizeLine /\ ∃ (its : List Value) (n : Nat), Vals xs its /\ h.get? a = some { cls := .type "list", data := .seq its.toArray n }
  | .tup xs => xs.length <= sizeLine /\ ∃ its : List Value, Vals xs its /\ IsTup h a its.toArray
  | .dK kvs => kvs.length <= sizeLine /\ (a == sysModules) = false /\ ∃ vs, KV kvs vs /\ h.DictOf (mixKind P w) a vs
  | .dT kvs => kvs.length <= sizeLine /\ (a == sysModules) = false /\ ∃ xs : List (List Key × Addr × Value),
      Paired (fun (p : List Key × V) (q : List Key × Addr × Value) => p.1 = q.1 /\ H q.2.1 = some (.tup (p.1.map kV)) /\ RelV p.2 q.2.2) kvs xs /\
      ∃ o es ep, h.get? a = some o /\ o.ExactDict /\ o.data = .dict es ep /\ es.toList = xs.map (entryOfKey (tupleKind (mixKind P w))) /\ (xs.map (·.1)).Nodup
  | .set S n => h.SetOf (intKind P w) a S n
  | .ins C dx fs => H dx = some (.own a) /\ fs.length <= 1000 /\ dx ≠ a /\ h.get? a = some (PySem.W.instObj C dx) /\
      ∃ mA, h.Ns1 dx mA /\ (∀ f, RelO (fs.lookup f) (mA f)) /\ PySem.Within mA (fs.map (·.1))
  | .own _ => ∃ o, h.get? a = some o
  | .xd fs => ∃ mA, h.Ns1 a mA /\ ∀ f, RelO (fs.lookup f) (mA f)
  | .rng lo hi => ∃ t u v, h.get? a = some { cls := .type "range", data := .fields #[.int lo t, .int hi u, .int 1 v] }
  | .frz o u => h.get? a = some o /\ ObjOk H h a u
  | .tbl ps => h.get? a = some { cls := .none, data := .fields ps }
  | .met f x => h.get? a = some (PySem.W.methodObj (.ref f) (.ref x))
  | .ext φ => φ h /\ (∃ o, h.get? a = some o) /\ ∀ h1 h2 : Heap, φ h1 -> (∀ o, h1.get? a = some o -> h2.get? a = some o) -> φ h2
def HOk (H : Hp) (h : Heap) : Prop := ∀ a o, H a = some o -> ObjOk P w H h a o
end
section
variable {P : Program} {w : World} {H H' : Hp} {h h' : Heap} {a : Addr} {o : HO}
theorem ObjOk.lt (x : ObjOk P w H h a o) : a < h.objs.size := by
  cases o with
  | lst xs => obtain ⟨_, _, _, _, e⟩ := x; exact Heap.lt_size e
  | tup xs => obtain ⟨_, _, _, p⟩ := x; exact p.lt
  | dK kvs => obtain ⟨_, _, _, _, o, _, _, e, _⟩ := x; exact Heap.lt_size e
  | dT kvs => obtain ⟨_, _, _, _, o, _, _, e, _⟩ := x; exact Heap.lt_size e
  | set S n => obtain ⟨o, _, _, _, e, _⟩ := x; exact Heap.lt_size e
  | ins C dx fs => obtain ⟨_, _, _, e, _⟩ := x; exact Heap.lt_size e
  | own y => obtain ⟨_, e⟩ := x; exact Heap.lt_size e
  | xd fs => obtain ⟨_, ⟨_, _, _, e, _⟩, _⟩ := x; exact Heap.lt_size e
  | rng lo hi => obtain ⟨_, _, _, e⟩ := x; exact Heap.lt_size e
  | frz ob u => obtain ⟨e, _⟩ := x; exact Heap.lt_size e
  | tbl ps => exact Heap.lt_size (show h.get? a = some _ from x)
  | met f y => exact Heap.lt_size (show h.get? a = some _ from x)
  | ext φ => obtain ⟨_, ⟨_, e⟩, _⟩ := x; exact Heap.lt_size e
theorem Paired.mapP {α β : Type} {F G : α -> β -> Prop} : ∀ {l₁ : List α} {l₂ : List β}, Paired F l₁ l₂ -> (∀ a b, F a b -> G a b) -> Paired G l₁ l₂
  | _, _, .nil, _ => .nil
  | _, _, .cons r t, f => .cons (f _ _ r) (Paired.mapP t f)
theorem ObjOk.stay (x : ObjOk P w H h a o) (k : ∀ b u, (b = a \/ H b = some (.own a)) -> h.get? b = some u -> h'.get? b = some u)
    (ho : ∀ b, H b = some (.own a) -> H' b = some (.own a)) (ht : ∀ b xs, H b = some (.tup xs) -> H' b = some (.tup xs)) : ObjOk P w H' h' a o := by
  induction o with
  | lst xs => obtain ⟨z, its, n, r, e⟩ := x; exact ⟨z, its, n, r, k _ _ (.inl rfl) e⟩
  | tup xs => obtain ⟨z, its, r, ob, e, c⟩ := x; exact ⟨z, its, r, ob, k _ _ (.inl rfl) e, c⟩
  | dK kvs => obtain ⟨z, y, vs, r, ob, es, ep, e, c⟩ := x; exact ⟨z, y, vs, r, ob, es, ep, k _ _ (.inl rfl) e, c⟩
  | dT kvs =>
    obtain ⟨z, y, xs, r, ob, es, ep, e, c⟩ := x
    exact ⟨z, y, xs, Paired.mapP r fun p q z => ⟨z.1, ht _ _ z.2.1, z.2.2⟩, ob, es, ep, k _ _ (.inl rfl) e, c⟩
  | set S n => obtain ⟨ob, es, ep, t, e, c⟩ := x; exact ⟨ob, es, ep, t, k _ _ (.inl rfl) e, c⟩
  | ins C dx fs =>
    obtain ⟨d, z, ne, e, mA, ⟨od, es, ep, e2, c⟩, r⟩ := x
    exact ⟨ho _ d, z, ne, k _ _ (.inl rfl) e, mA, ⟨od, es, ep, k _ _ (.inr d) e2, c⟩, r⟩
  | own y => obtain ⟨ob, e⟩ := x; exact ⟨ob, k _ _ (.inl rfl) e⟩
  | xd fs => obtain ⟨mA, ⟨od, es, ep, e, c⟩, r⟩ := x; exact ⟨mA, ⟨od, es, ep, k _ _ (.inl rfl) e, c⟩, r⟩
  | rng lo hi => obtain ⟨t, u, v, e⟩ := x; exact ⟨t, u, v, k _ _ (.inl rfl) e⟩
  | frz ob u ih => obtain ⟨e, q⟩ := x; exact ⟨k _ _ (.inl rfl) e, ih q⟩
  | tbl ps =>
    have e : h.get? a = some { cls := .none, data := .fields ps } := x
    show h'.get? a = some { cls := .none, data := .fields ps }
    exact k a _ (.inl rfl) e
  | met f y =>
    have e : h.get? a = some (PySem.W.methodObj (.ref f) (.ref y)) := x
    show h'.get? a = some (PySem.W.methodObj (.ref f) (.ref y))
    exact k a _ (.inl rfl) e
  | ext φ => obtain ⟨p, ⟨o, e⟩, st⟩ := x; exact ⟨st _ _ p fun o q => k _ _ (.inl rfl) q, ⟨o, k _ _ (.inl rfl) e⟩, st⟩
theorem HOk.lt (x : HOk P w H h) (e : H a = some o) : a < h.objs.size := (x a o e).lt
theorem HOk.fresh (x : HOk P w H h) (e : h.objs.size <= a) : H a = none := by
  cases q : H a with
  | none => rfl
  | some u => exact absurd (Nat.lt_of_lt_of_le (x.lt q) e) (Nat.lt_irrefl _)
theorem HOk.kept (x : HOk P w H h) (k : ∀ b u, h.get? b = some u -> h'.get? b = some u) : HOk P w H h' := fun a o e =>
  (x a o e).stay (fun b u _ q => k b u q) (fun _ q => q) fun _ _ q => q
theorem HOk.laid (x : HOk P w H h) (k : ∀ b u, h.get? b = some u -> h'.get? b = some u) (hp : h.objs.size <= a) (new : ObjOk P w (upd H a o) h' a o) : HOk P w (upd H a o) h' := fun b u e => by
  have hn := x.fresh hp
  by_cases hb : b = a
  · subst hb; rw [upd_same] at e; cases e; exact new
  · rw [upd_ne hb] at e
    exact (x b u e).stay (fun c v _ q => k c v q) (fun c q => by rw [upd_ne (ne_of_none q hn)]; exact q) fun c xs q => by rw [upd_ne (ne_of_none q hn)]; exact q
end
def Rd (H : Hp) (a : Addr) (u : HO) : Prop := H a = some u \/ ∃ o, H a = some (.frz o u)
theorem Rd.ok {P : Program} {w : World} {H : Hp} {h : Heap} {a : Addr} {u : HO} (r : Rd H a u) (x : HOk P w H h) : ObjOk P w H h a u := by
  rcases r with r | ⟨o, r⟩
  · exact x a u r
  · obtain ⟨_, q⟩ := x a _ r
    exact q
def Mut : Option HO -> Prop
  | some (.lst _) => True
  | some (.dK _) => True
  | some (.dT _) => True
  | some (.set _ _) => True
  | some (.ins _ _ _) => True
  | some (.ext _) => True
  | _ => False
section
variable {P : Program} {w : World} {H : Hp} {h h' : Heap} {x e : Addr} {o' : HO}
theorem HOk.write (ok : HOk P w H h) (mu : Mut (H x)) (he : e = x \/ H e = some (.own x)) (k : ∀ b u, b ≠ e -> h.get? b = some u -> h'.get? b = some u) (heo : ∃ u, h'.get? e = some u)
    (new : ObjOk P w (upd H x o') h' x o') : HOk P w (upd H x o') h' := fun b u q => by
  have nown : ∀ c y, H c = some (.own y) -> c ≠ x := fun c y r z => by subst z; rw [r] at mu; exact mu
  have ntup : ∀ c xs, H c = some (.tup xs) -> c ≠ x := fun c xs r z => by subst z; rw [r] at mu; exact mu
  by_cases hb : b = x
  · subst hb; rw [upd_same] at q; cases q; exact new
  · rw [upd_ne hb] at q
    by_cases hbe : b = e
    · have q' : H b = some (.own x) := by
        rcases he with z | z
        · exact absurd (hbe.trans z) hb
        · rw [hbe]; exact z
      rw [q] at q'; cases q'
      obtain ⟨v, hv⟩ := heo
      exact ⟨v, by rw [hbe]; exact hv⟩
    · refine (ok b u q).stay (fun c v hc r => k c v ?_ r) (fun c r => by rw [upd_ne (nown c b r)]; exact r) fun c xs r => by rw [upd_ne (ntup c xs r)]; exact r
      rcases hc with rfl | hc
      · exact hbe
      · rintro rfl
        rcases he with z | z
        · exact nown c b hc z
        · rw [hc] at z; cases z; exact hb rfl
end
structure Un (fs ex : List Addr) (H H' : Hp) (h h' : Heap) : Prop where
  keep : ∀ b o, h.get? b = some o -> H b = none -> b ∉ fs -> b ∉ ex -> h'.get? b = some o
  slot : ∀ b o, h.get? b = some o -> H b = none -> b ∈ fs -> b ∉ ex -> ∃ sl, h'.get? b = some { o with slots := sl }
  free : ∀ b o, h.get? b = some o -> H b = none -> b ∉ ex -> H' b = none
  there : ∀ b o, h.get? b = some o -> b ∉ ex -> ∃ o', h'.get? b = some o'
  tups : ∀ b xs, H b = some (.tup xs) -> H' b = some (.tup xs)
  frzs : ∀ b o u, H b = some (.frz o u) -> H' b = some (.frz o u)
  tbls : ∀ b ps, H b = some (.tbl ps) -> ∃ more, H' b = some (.tbl (ps ++ more))
section
variable {fs fs' ex ex' : List Addr} {H H1 H2 : Hp} {h h1 h2 h' : Heap} {a x e : Addr} {o : HO}
theorem Un.any (u : Un fs ex H H1 h h1) {b : Addr} {ob : Obj} (q : h.get? b = some ob) (n : H b = none) (hx : b ∉ ex) : ∃ sl, h1.get? b = some { ob with slots := sl } := by
  by_cases hb : b ∈ fs
  · exact u.slot b ob q n hb hx
  · exact ⟨ob.slots, u.keep b ob q n hb hx⟩
theorem Un.kept (k : ∀ b u, h.get? b = some u -> h'.get? b = some u) : Un fs ex H H h h' :=
  ⟨fun b ob q _ _ _ => k b ob q, fun b ob q _ _ _ => ⟨ob.slots, k b ob q⟩, fun _ _ _ n _ => n, fun b ob q _ => ⟨ob, k b ob q⟩, fun _ _ q => q, fun _ _ _ q => q, fun _ ps q => ⟨#[], by rw [q]; simp⟩⟩
theorem Un.refl : Un fs ex H H h h := Un.kept fun _ _ q => q
theorem Un.laid (k : ∀ b u, h.get? b = some u -> h'.get? b = some u) (hp : h.objs.size <= a) (hn : H a = none) : Un fs ex H (upd H a o) h h' where
  keep := fun b u q _ _ _ => k b u q
  slot := fun b u q _ _ _ => ⟨u.slots, k b u q⟩
  free := fun b u q n _ => by rw [upd_ne (Nat.ne_of_lt (Nat.lt_of_lt_of_le (Heap.lt_size q) hp))]; exact n
  there := fun b u q _ => ⟨u, k b u q⟩
  tups := fun b xs q => by rw [upd_ne (ne_of_none q hn)]; exact q
  frzs := fun b u xs q => by rw [upd_ne (ne_of_none q hn)]; exact q
  tbls := fun b ps q => ⟨#[], by rw [upd_ne (ne_of_none q hn), q]; simp⟩
theorem Un.write (mu : Mut (H x)) (he : e = x \/ H e = some (.own x)) (k : ∀ b u, b ≠ e -> h.get? b = some u -> h'.get? b = some u) (heo : ∃ u, h'.get? e = some u) : Un fs ex H (upd H x o) h h' := by
  have hx : ∀ b, H b = none -> b ≠ x := fun b n z => by subst z; rw [n] at mu; exact mu
  have hb : ∀ b, H b = none -> b ≠ e := fun b n z => by
    subst z
    rcases he with r | r
    · exact hx b n r
    · rw [n] at r; cases r
  have hm : ∀ b u, H b = some u -> ¬ Mut (some u) -> b ≠ x := fun b u q nm z => by subst z; rw [q] at mu; exact nm mu
  refine ⟨fun b u q n _ _ => k b u (hb b n) q, fun b u q n _ _ => ⟨u.slots, k b u (hb b n) q⟩, fun b u q n _ => by rw [upd_ne (hx b n)]; exact n, fun b u q _ => ?_,
    fun b xs q => by rw [upd_ne (hm b _ q fun z => z)]; exact q, fun b u xs q => by rw [upd_ne (hm b _ q fun z => z)]; exact q, fun b ps q => ⟨#[], by rw [upd_ne (hm b _ q fun z => z), q]; simp⟩⟩
  by_cases hbe : b = e
  · subst hbe; exact heo
  · exact ⟨u, k b u hbe q⟩
end
def trk (h : Heap) (H : Hp) : List Addr := (List.range h.objs.size).filter fun a => (H a).isSome
def hidT (h : Heap) (H : Hp) : Heap := PySem.W.hideAll h (trk h H)
theorem hidT_size (h : Heap) (H : Hp) : (hidT h H).objs.size = h.objs.size := PySem.W.hideAll_size _ _
theorem hidT_get {h : Heap} {H : Hp} {b : Addr} {o : Obj} (e : h.get? b = some o) (n : H b = none) : (hidT h H).get? b = some o :=
  PySem.W.hideAll_get _ e fun hm => by
    have q : (H b).isSome = true := (List.mem_filter.mp hm).2
    rw [n] at q; simp at q
theorem of_hidT {h : Heap} {H : Hp} {b : Addr} {o : Obj} (e : (hidT h H).get? b = some o) : h.get? b = some o /\ H b = none := by
  have e' : h.get? b = some o := PySem.W.of_hideAll (trk h H) e
  refine ⟨e', ?_⟩
  cases q : H b with
  | none => rfl
  | some x =>
    have hm : b ∈ trk h H := List.mem_filter.mpr ⟨List.mem_range.mpr (Heap.lt_size e'), by simp [q]⟩
    have z : (hidT h H).get? b = none := PySem.W.hideAll_none (trk h H) hm
    rw [z] at e; cases e
def allNews (g h : Heap) (L : Addr) : List (Addr × Obj) := (List.range h.objs.size).filterMap fun a => if a = L \/ (g.get? a).isSome = true then none else (h.get? a).map fun o => (a, o)
def rest (g h : Heap) (L d : Addr) : List (Addr × Obj) := (allNews g h L).filter fun p => decide (p.1 ≠ d)
structure Mod (K : PySem.W.Frag) (mg : Str -> Option Value) (base : Heap) : Prop where
  kin : K.In base
  glob : base.Ns mainGlobals mg
  blt : ∃ mb, base.Ns builtinsNs mb /\ ∀ x : Str, x ≠ "__name__" -> mb x = bootBuiltins x
  nolimit : base.NoLimit
structure Cx where
  prog : Program
  w : World
  K : PySem.W.Frag
  mg : Str -> Option Value
  base : Heap
  A : Around
  N : List Str
  s₀ : Shared
  H₀ : Hp
  env : Env
  outer : List Env
  stack : List Env
  ex : List Addr
  fn : Str -> Bool
  calm : Bool
  pn : List (Addr × Obj)
  xe : Value -> Shared -> Prop
def frs (l : List Env) : List Addr := l.filterMap (·.frame)
abbrev Cx.fs (X : Cx) : List Addr := frs X.outer
def Vis (sc : Scope) (x : Str) : Prop := sc.names.lookup x = some .local \/ sc.names.lookup x = some .cell \/ sc.names.lookup x = some .free
def Loc (sc : Scope) (x : Str) : Prop := sc.names.lookup x = some .local \/ sc.names.lookup x = some .cell
def Look (env : Env) (h : Heap) (m : Str -> Option Value) (x : Str) (u : Value) : Prop :=
  (env.kindOf x = some .local /\ m x = some u) \/ ((env.kindOf x = some .cell \/ env.kindOf x = some .free) /\ ∃ c, env.cells.lookup x = some c /\ h.IsCell c (some u))
structure Cx.Ok (X : Cx) : Prop where
  mod : Mod X.K X.mg X.base
  kind : X.env.scope.kind = .function
  glob : X.env.globals = mainGlobals
  blt : X.env.builtins = builtinsNs
  above : X.s₀.heap.objs.size <= X.env.locals
  inj : ∀ x y c, X.env.cells.lookup x = some c -> X.env.cells.lookup y = some c -> x = y
  has : ∀ x, (X.env.kindOf x = some .cell \/ X.env.kindOf x = some .free) -> ∃ c, X.env.cells.lookup x = some c
  cab : ∀ x c, X.fn x = true -> X.env.cells.lookup x = some c -> X.s₀.heap.objs.size <= c
  hd : X.calm = true -> X.A.handled = none
  frames : X.A.frames = some X.stack
  stk : X.stack = X.outer \/ (X.stack = X.env :: X.outer /\ X.env.frame = some X.env.locals)
  exf : ∀ b ∈ X.ex, b ≠ X.env.locals /\ ∀ x c, X.env.cells.lookup x = some c -> c ≠ b
  bs : ∀ b o, X.base.get? b = some o -> X.s₀.heap.get? b = some o /\ X.H₀ b = none
  bsz : X.base.objs.size <= X.s₀.heap.objs.size
  noex : ∀ b o, X.base.get? b = some o -> b ∉ X.ex
  exfs : ∀ b ∈ X.ex, b ∉ X.fs
  funs : X.s₀.heap.FunFrames X.base X.outer
  frf : ∀ b ∈ X.fs, X.H₀ b = none
structure Inv (X : Cx) (pins : List (Addr × Obj)) (σ : List (Option V)) (H : Hp) (s : Shared) : Prop where
  ok : X.Ok
  os : s.os = X.s₀.os
  bare : AllBare s.gens
  base : Un X.fs X.ex X.H₀ H X.s₀.heap s.heap
  loc : ∃ m, s.heap.Ns X.env.locals m /\ ∀ (i : Nat) (x : Str) (v : V), X.N[i]? = some x -> σ[i]? = some (some v) -> Vis X.env.scope x -> ∃ u, RelV v u /\ Look X.env s.heap m x u
  cell : ∀ x c, X.env.cells.lookup x = some c -> ∃ v, s.heap.IsCell c v
  free : H X.env.locals = none
  freeC : ∀ x c, X.env.cells.lookup x = some c -> H c = none
  pin : ∀ p ∈ X.pn ++ pins, s.heap.get? p.1 = some p.2 /\ H p.1 = none /\ p.1 ≠ X.env.locals /\ p.1 ∉ X.fs /\ ∀ v, p.2.data ≠ .cell v
  hok : HOk X.prog X.w H s.heap
  len : σ.length = X.N.length
section
variable {X : Cx} {pins : List (Addr × Obj)} {σ : List (Option V)} {H H' : Hp} {s : Shared} {h' : Heap}
theorem Cx.Ok.nofr (ok : X.Ok) {b : Addr} {o : Obj} (e : X.base.get? b = some o) : b ∉ X.fs := fun hb => by
  have := (ok.funs.mem hb).1
  rw [e] at this; cases this
theorem Inv.bs (I : Inv X pins σ H s) : ∀ b o, X.base.get? b = some o -> s.heap.get? b = some o /\ H b = none := fun b o e =>
  ⟨I.base.keep b o (I.ok.bs b o e).1 (I.ok.bs b o e).2 (I.ok.nofr e) (I.ok.noex b o e), I.base.free b o (I.ok.bs b o e).1 (I.ok.bs b o e).2 (I.ok.noex b o e)⟩
theorem Inv.bk (I : Inv X pins σ H s) : ∀ b o, X.base.get? b = some o -> s.heap.get? b = some o := fun b o e => (I.bs b o e).1
theorem Inv.mod (I : Inv X pins σ H s) : Mod X.K X.mg X.base := I.ok.mod
theorem Inv.kIn (I : Inv X pins σ H s) : X.K.In s.heap := I.ok.mod.kin.keeps I.bk
theorem Inv.lt (I : Inv X pins σ H s) : X.env.locals < s.heap.objs.size := let ⟨_, hn, _⟩ := I.loc; hn.lt
theorem Inv.sz (I : Inv X pins σ H s) : X.s₀.heap.objs.size <= s.heap.objs.size := Nat.le_trans I.ok.above (Nat.le_of_lt I.lt)
theorem Inv.nofs (I : Inv X pins σ H s) {a : Addr} (h : s.heap.objs.size <= a) : a ∉ X.fs := fun hb => by
  obtain ⟨_, o, ho, _⟩ := I.ok.funs.mem hb
  exact absurd (Nat.lt_of_lt_of_le (Heap.lt_size ho) (Nat.le_trans I.sz h)) (Nat.lt_irrefl _)
theorem Inv.cne (I : Inv X pins σ H s) : ∀ x c, X.env.cells.lookup x = some c -> c ≠ X.env.locals := fun x c e z => by
  obtain ⟨v, o, ho, hd⟩ := I.cell x c e
  obtain ⟨m, ⟨o', es, ep, ho', hd', _⟩, _⟩ := I.loc
  rw [z, ho'] at ho; cases ho; rw [hd'] at hd; cases hd
theorem Inv.funs (I : Inv X pins σ H s) : s.heap.FunFrames X.base X.outer := by
  have all : ∀ (l : List Env), (∀ b ∈ frs l, b ∈ X.fs) -> X.s₀.heap.FunFrames X.base l -> s.heap.FunFrames X.base l := by
    intro l
    induction l with
    | nil => intro _ _; trivial
    | cons env r ih =>
      intro hs hl
      obtain ⟨hk, ⟨L, o, hf, hn, ho, hd⟩, hr⟩ := hl
      have hL : L ∈ X.fs := hs L (by unfold frs; rw [List.filterMap_cons, hf]; exact List.mem_cons_self)
      obtain ⟨sl, e⟩ := I.base.slot L o ho (I.ok.frf L hL) hL fun z => I.ok.exfs L z hL
      exact ⟨hk, ⟨L, _, hf, hn, e, hd⟩, ih (fun b hb => hs b (by unfold frs; rw [List.filterMap_cons, hf]; exact List.mem_cons_of_mem _ hb)) hr⟩
  exact all X.outer (fun _ hb => hb) I.ok.funs
theorem Inv.stack (I : Inv X pins σ H s) : s.heap.FunFrames X.base X.stack := by
  rcases I.ok.stk with e | ⟨e, hf⟩
  · rw [e]; exact I.funs
  · rw [e]
    obtain ⟨m, hn, _⟩ := I.loc
    refine .cons (by rw [I.ok.kind]; decide) hf hn ?_ I.funs
    exact Heap.get?_none_of_le (Nat.le_trans I.ok.bsz I.ok.above)
theorem Inv.stkSub (I : Inv X pins σ H s) : ∀ b ∈ frs X.stack, b ∈ X.env.locals :: X.fs := fun b hb => by
  rcases I.ok.stk with e | ⟨e, hf⟩
  · rw [e] at hb; exact List.mem_cons_of_mem _ hb
  · rw [e] at hb
    unfold frs at hb
    rw [List.filterMap_cons, hf] at hb
    exact hb
theorem Inv.stkFree (I : Inv X pins σ H s) : ∀ b ∈ frs X.stack, H b = none := fun b hb => by
  rcases List.mem_cons.mp (I.stkSub b hb) with e | hb
  · rw [e]; exact I.free
  · obtain ⟨_, o, ho, _⟩ := I.ok.funs.mem hb
    exact I.base.free b o ho (I.ok.frf b hb) fun z => I.ok.exfs b z hb
theorem Inv.step {g' : Array GenState} {t' : Nat} {d' : Drawn} {ch : List Addr} (I : Inv X pins σ H s)
    (hch : ∀ b ∈ ch, (b ∈ X.ex \/ X.s₀.heap.objs.size <= b) /\ b ≠ X.env.locals /\ (∀ x c, X.env.cells.lookup x = some c -> c ≠ b) /\ ∀ p ∈ X.pn ++ pins, p.1 ≠ b)
    (keep : ∀ b o, b ≠ X.env.locals -> b ∉ X.fs -> b ∉ ch -> s.heap.get? b = some o -> H b = none -> h'.get? b = some o)
    (slot : ∀ b o, b ≠ X.env.locals -> b ∈ X.fs -> b ∉ ch -> s.heap.get? b = some o -> H b = none -> ∃ sl, h'.get? b = some { o with slots := sl }) (free : ∀ b o, b ∉ ch -> s.heap.get? b = some o -> H b = none -> H' b = none)
    (there : ∀ b o, b ∉ ch -> s.heap.get? b = some o -> ∃ o', h'.get? b = some o')
    (tups : ∀ b xs, H b = some (.tup xs) -> H' b = some (.tup xs)) (frzs : ∀ b o u, H b = some (.frz o u) -> H' b = some (.frz o u)) (tbls : ∀ b ps, H b = some (.tbl ps) -> ∃ more, H' b = some (.tbl (ps ++ more)))
    (ns : ∀ m, s.heap.Ns X.env.locals m -> h'.Ns X.env.locals m) (hok : HOk X.prog X.w H' h') (hg : AllBare g') :
    Inv X pins σ H' { s with heap := h', gens := g', drawn := d', toks := t' } := by
  have neL : ∀ b o, X.s₀.heap.get? b = some o -> b ≠ X.env.locals := fun b o e => Nat.ne_of_lt (Nat.lt_of_lt_of_le (Heap.lt_size e) I.ok.above)
  have neC : ∀ b o, X.s₀.heap.get? b = some o -> b ∉ X.ex -> b ∉ ch := fun b o e hx hb => by
    rcases (hch b hb).1 with z | z
    · exact hx z
    · exact absurd (Nat.lt_of_lt_of_le (Heap.lt_size e) z) (Nat.lt_irrefl _)
  have cellK : ∀ x c, X.env.cells.lookup x = some c -> ∀ v, s.heap.IsCell c v -> h'.IsCell c v := fun x c e v ⟨o, ho, hd⟩ => by
    have nch : c ∉ ch := fun z => (hch c z).2.2.1 x c e rfl
    by_cases hc : c ∈ X.fs
    · obtain ⟨sl, q⟩ := slot c o (I.cne x c e) hc nch ho (I.freeC x c e)
      exact ⟨_, q, hd⟩
    · exact ⟨o, keep c o (I.cne x c e) hc nch ho (I.freeC x c e), hd⟩
  refine ⟨I.ok, I.os, hg, ⟨fun b o e n hb hx => ?_, fun b o e n hb hx => ?_, fun b o e n hx => ?_, fun b o e hx => ?_, fun b xs e => tups b xs (I.base.tups b xs e), fun b o xs e => frzs b o xs (I.base.frzs b o xs e), fun b ps e => ?_⟩, ?_, fun x c e => ?_, ?_, fun x c e => ?_, fun p hp => ?_, hok, I.len⟩
  · exact keep b o (neL b o e) hb (neC b o e hx) (I.base.keep b o e n hb hx) (I.base.free b o e n hx)
  · obtain ⟨sl, e1⟩ := I.base.slot b o e n hb hx
    obtain ⟨sl', e2⟩ := slot b _ (neL b o e) hb (neC b o e hx) e1 (I.base.free b o e n hx)
    exact ⟨sl', e2⟩
  · obtain ⟨o', e1⟩ := I.base.there b o e hx
    exact free b o' (neC b o e hx) e1 (I.base.free b o e n hx)
  · obtain ⟨o', e1⟩ := I.base.there b o e hx
    exact there b o' (neC b o e hx) e1
  · obtain ⟨m1, e1⟩ := I.base.tbls b ps e
    obtain ⟨m2, e2⟩ := tbls b _ e1
    exact ⟨m1 ++ m2, by rw [e2, Array.append_assoc]⟩
  · obtain ⟨m, hn, hl⟩ := I.loc
    refine ⟨m, ns m hn, fun i x v e1 e2 e3 => ?_⟩
    obtain ⟨u, r, l⟩ := hl i x v e1 e2 e3
    refine ⟨u, r, ?_⟩
    rcases l with l | ⟨k, c, e, z⟩
    · exact .inl l
    · exact .inr ⟨k, c, e, cellK x c e _ z⟩
  · obtain ⟨v, z⟩ := I.cell x c e
    exact ⟨v, cellK x c e v z⟩
  · obtain ⟨m, ⟨o, _, _, ho, _⟩, _⟩ := I.loc
    exact free _ o (fun z => (hch _ z).2.1 rfl) ho I.free
  · obtain ⟨v, o, ho, hd⟩ := I.cell x c e
    exact free c o (fun z => (hch c z).2.2.1 x c e rfl) ho (I.freeC x c e)
  · obtain ⟨e, n, ne, nf, d⟩ := I.pin p hp
    have nch : p.1 ∉ ch := fun z => (hch p.1 z).2.2.2 p hp rfl
    exact ⟨keep p.1 p.2 ne nf nch e n, free p.1 p.2 nch e n, ne, nf, d⟩
theorem Inv.un {t' : Nat} (I : Inv X pins σ H s) (u : Un X.fs [] H H' s.heap h') (hok : HOk X.prog X.w H' h') : Inv X pins σ H' { s with heap := h', toks := t' } := by
  obtain ⟨m, ⟨o, es, ep, ho, r⟩, _⟩ := id I.loc
  obtain ⟨sl, hL⟩ := u.any ho I.free (by simp)
  exact I.step (g' := s.gens) (d' := s.drawn) (ch := []) (fun _ z => nomatch z) (fun b o _ hb _ e n => u.keep b o e n hb (by simp)) (fun b o _ hb _ e n => u.slot b o e n hb (by simp)) (fun b o _ e n => u.free b o e n (by simp)) (fun b o _ e => u.there b o e (by simp)) u.tups u.frzs u.tbls (fun m' hm => by
    obtain ⟨o', es', ep', ho', r'⟩ := hm
    rw [ho] at ho'; cases ho'
    exact ⟨_, es', ep', hL, r'⟩) hok I.bare
theorem Inv.call {g' : Array GenState} {t' : Nat} {d' : Drawn} {ch : List Addr} (I : Inv X pins σ H s) (u : Un (frs X.stack) ch H H' s.heap h') (hok : HOk X.prog X.w H' h') (hg : AllBare g')
    (hch : ∀ b ∈ ch, (b ∈ X.ex \/ X.s₀.heap.objs.size <= b) /\ b ≠ X.env.locals /\ (∀ x c, X.env.cells.lookup x = some c -> c ≠ b) /\ ∀ p ∈ X.pn ++ pins, p.1 ≠ b) :
    Inv X pins σ H' { s with heap := h', gens := g', drawn := d', toks := t' } := by
  obtain ⟨m, ⟨o, es, ep, ho, r⟩, _⟩ := id I.loc
  obtain ⟨sl, hL⟩ := u.any ho I.free fun z => (hch _ z).2.1 rfl
  exact I.step (ch := ch) hch (fun b o hL hb hc e n => u.keep b o e n (fun z => (List.mem_cons.mp (I.stkSub b z)).elim hL hb) hc) (fun b o _ _ hc e n => u.any e n hc) (fun b o hc e n => u.free b o e n hc) (fun b o hc e => u.there b o e hc) u.tups u.frzs u.tbls (fun m' hm => by
    obtain ⟨o', es', ep', ho', r'⟩ := hm
    rw [ho] at ho'; cases ho'
    exact ⟨_, es', ep', hL, r'⟩) hok hg
theorem Inv.turned {t' : Nat} {it : Addr} (I : Inv X pins σ H s) (k : ∀ b o, b ≠ it -> s.heap.get? b = some o -> h'.get? b = some o) (hn : H it = none) (hL : it ≠ X.env.locals)
    (h1 : it ∈ X.ex \/ X.s₀.heap.objs.size <= it) (h2 : ∀ x c, X.env.cells.lookup x = some c -> c ≠ it) (h3 : ∀ p ∈ X.pn ++ pins, p.1 ≠ it) : Inv X pins σ H { s with heap := h', toks := t' } := by
  have nit : ∀ b u, H b = some u -> b ≠ it := fun b u e z => by rw [z, hn] at e; cases e
  refine I.step (g' := s.gens) (d' := s.drawn) (ch := [it]) (fun b hb => ?_) (fun b o _ _ hc e _ => k b o (fun z => hc (by simp [z])) e) (fun b o _ _ hc e _ => ⟨o.slots, k b o (fun z => hc (by simp [z])) e⟩) (fun _ _ _ _ n => n)
    (fun b o hc e => ⟨o, k b o (fun z => hc (by simp [z])) e⟩) (fun _ _ e => e) (fun _ _ _ e => e) (fun b ps e => ⟨#[], by rw [e]; simp⟩) (fun m hm => ?_) (fun b u e => ?_) I.bare
  · have e : b = it := by simpa using hb
    subst e
    exact ⟨h1, hL, h2, h3⟩
  · obtain ⟨o, es, ep, ho, r⟩ := hm
    exact ⟨o, es, ep, k _ o (Ne.symm hL) ho, r⟩
  · refine (I.hok b u e).stay (fun c v hc q => k c v ?_ q) (fun _ q => q) fun _ _ q => q
    rcases hc with z | z
    · rw [z]; exact nit b u e
    · exact nit c _ z
theorem Inv.tok (I : Inv X pins σ H s) (t : Nat) : Inv X pins σ H { s with toks := t } := I.un (h' := s.heap) (t' := t) Un.refl I.hok
theorem Inv.kept {t' : Nat} (I : Inv X pins σ H s) (k : ∀ b u, s.heap.get? b = some u -> h'.get? b = some u) : Inv X pins σ H { s with heap := h', toks := t' } := I.un (Un.kept k) (I.hok.kept k)
theorem Inv.laid {a : Addr} {o : HO} {t' : Nat} (I : Inv X pins σ H s) (k : ∀ b u, s.heap.get? b = some u -> h'.get? b = some u) (hp : s.heap.objs.size <= a) (new : ObjOk X.prog X.w (upd H a o) h' a o) :
    Inv X pins σ (upd H a o) { s with heap := h', toks := t' } := I.un (Un.laid k hp (I.hok.fresh hp)) (I.hok.laid k hp new)
theorem Inv.write {x e : Addr} {o : HO} {t' : Nat} (I : Inv X pins σ H s) (mu : Mut (H x)) (he : e = x \/ H e = some (.own x)) (k : ∀ b u, b ≠ e -> s.heap.get? b = some u -> h'.get? b = some u) (heo : ∃ u, h'.get? e = some u)
    (new : ObjOk X.prog X.w (upd H x o) h' x o) : Inv X pins σ (upd H x o) { s with heap := h', toks := t' } := I.un (Un.write mu he k heo) (I.hok.write mu he k heo new)
theorem Inv.pins_of {pins' : List (Addr × Obj)} (I : Inv X pins σ H s) (h : ∀ p ∈ pins', s.heap.get? p.1 = some p.2 /\ H p.1 = none /\ p.1 ≠ X.env.locals /\ p.1 ∉ X.fs /\ ∀ v, p.2.data ≠ .cell v) : Inv X pins' σ H s :=
  ⟨I.ok, I.os, I.bare, I.base, I.loc, I.cell, I.free, I.freeC, fun p hp => (List.mem_append.mp hp).elim (fun z => I.pin p (List.mem_append_left _ z)) (h p), I.hok, I.len⟩
theorem nodup_ix {N : List Str} (hN : N.Nodup) {i j : Nat} {x : Str} (a : N[i]? = some x) (b : N[j]? = some x) : i = j := by
  obtain ⟨h1, e1⟩ := List.getElem?_eq_some_iff.mp a
  obtain ⟨h2, e2⟩ := List.getElem?_eq_some_iff.mp b
  exact (List.getElem_inj hN).mp (e1.trans e2.symm)
theorem store_ok2 {M : Model} {A : Around} {E : Value -> Shared -> Prop} {i : Nat} {x : Str} {v : V} {u : Value} {Q : Unit -> Shared -> Prop} (I : Inv X pins σ H s) (hN : X.N.Nodup) (hi : X.N[i]? = some x) (hx : Loc X.env.scope x) (r : RelV v u)
    (h : ∀ s', Inv X pins (σ.set i (some v)) H s' -> (∃ a, Heap.SameBut a s.heap s'.heap /\ (a = X.env.locals \/ X.env.cells.lookup x = some a)) -> Q () s') (hf : X.fn x = true \/ X.env.scope.names.lookup x = some .local := by first | exact .inl rfl | exact .inr rfl | assumption) : wpAny M A (storeName X.env x u) Q E s := by
  obtain ⟨m, hn, hl⟩ := id I.loc
  have hcls : (X.env.scope.kind == .class || (X.env.scope.kind == .module && X.env.locals != X.env.globals)) = false := by rw [I.ok.kind]; rfl
  have hiσ : i < σ.length := by rw [I.len]; exact (List.getElem?_eq_some_iff.mp hi).1
  have cne := I.cne
  have tracked : ∀ {a : Addr} {h' : Heap}, (∃ o, s.heap.get? a = some o /\ H a = none) -> Heap.SameBut a s.heap h' -> HOk X.prog X.w H h' := fun {a h'} ha hs b ob e => by
    obtain ⟨_, _, hfree⟩ := ha
    refine (I.hok b ob e).stay (fun c w' hc q => (hs.2 c ?_).trans q) (fun _ q => q) fun _ _ q => q
    rintro rfl
    rcases hc with rfl | hc
    · rw [hfree] at e; cases e
    · rw [hfree] at hc; cases hc
  rcases hx with hk | hk
  · refine wpAny_storeName_local hk hn (fun h' hn' hs => ?_) hcls
    obtain ⟨oL, _, _, hoL, _⟩ := id hn
    refine h _ ⟨I.ok, I.os, I.bare, ⟨fun b o e n hb hx => ?_, fun b o e n hb hx => ?_, I.base.free, fun b o e hx => ?_, I.base.tups, I.base.frzs, I.base.tbls⟩, ⟨_, hn', fun j y v' e1 e2 e3 => ?_⟩, fun y c e => ?_, I.free, I.freeC, fun p hp => ?_, tracked ⟨oL, hoL, I.free⟩ hs, by simpa using I.len⟩ ⟨_, hs, .inl rfl⟩
    · exact (hs.2 b (Nat.ne_of_lt (Nat.lt_of_lt_of_le (Heap.lt_size e) I.ok.above))).trans (I.base.keep b o e n hb hx)
    · obtain ⟨sl, e1⟩ := I.base.slot b o e n hb hx
      exact ⟨sl, (hs.2 b (Nat.ne_of_lt (Nat.lt_of_lt_of_le (Heap.lt_size e) I.ok.above))).trans e1⟩
    · obtain ⟨o', e1⟩ := I.base.there b o e hx
      exact ⟨o', (hs.2 b (Nat.ne_of_lt (Nat.lt_of_lt_of_le (Heap.lt_size e) I.ok.above))).trans e1⟩
    · by_cases hj : j = i
      · subst hj
        rw [hi] at e1; cases e1
        rw [List.getElem?_set_self hiσ] at e2
        cases e2
        exact ⟨u, r, .inl ⟨hk, by simp⟩⟩
      · rw [List.getElem?_set_ne (Ne.symm hj)] at e2
        obtain ⟨u', r', q⟩ := hl j y v' e1 e2 e3
        refine ⟨u', r', ?_⟩
        rcases q with ⟨k, e⟩ | ⟨k, c, e, z⟩
        · refine .inl ⟨k, ?_⟩
          have : y ≠ x := fun e => hj (nodup_ix hN e1 (e ▸ hi))
          simp [this, e]
        · exact .inr ⟨k, c, e, z.sameBut hs (cne y c e)⟩
    · obtain ⟨w', z⟩ := I.cell y c e
      exact ⟨w', z.sameBut hs (cne y c e)⟩
    · obtain ⟨e, n, ne, nf, d⟩ := I.pin p hp
      exact ⟨(hs.2 p.1 ne).trans e, n, ne, nf, d⟩
  · have hfn : X.fn x = true := by
      rcases hf with z | z
      · exact z
      · rw [z] at hk; cases hk
    obtain ⟨c, hc⟩ := I.ok.has x (.inl hk)
    obtain ⟨w', z⟩ := I.cell x c hc
    refine wpAny_storeName_cell I.ok.kind hk hc z (fun h' hc' hs => ?_)
    obtain ⟨oc, hoc, hocd⟩ := id z
    refine h { s with heap := h' } ⟨I.ok, I.os, I.bare, ⟨fun b o e n hb hx => ?_, fun b o e n hb hx => ?_, I.base.free, fun b o e hx => ?_, I.base.tups, I.base.frzs, I.base.tbls⟩, ⟨m, hn.sameBut hs (Ne.symm (cne x c hc)), fun j y v' e1 e2 e3 => ?_⟩, fun y c' e => ?_, I.free, I.freeC, fun p hp => ?_, tracked ⟨oc, hoc, I.freeC x c hc⟩ hs, by simpa using I.len⟩ ⟨c, hs, .inr hc⟩
    · exact (hs.2 b (Nat.ne_of_lt (Nat.lt_of_lt_of_le (Heap.lt_size e) (I.ok.cab x c hfn hc)))).trans (I.base.keep b o e n hb hx)
    · obtain ⟨sl, e1⟩ := I.base.slot b o e n hb hx
      exact ⟨sl, (hs.2 b (Nat.ne_of_lt (Nat.lt_of_lt_of_le (Heap.lt_size e) (I.ok.cab x c hfn hc)))).trans e1⟩
    · obtain ⟨o', e1⟩ := I.base.there b o e hx
      exact ⟨o', (hs.2 b (Nat.ne_of_lt (Nat.lt_of_lt_of_le (Heap.lt_size e) (I.ok.cab x c hfn hc)))).trans e1⟩
    · by_cases hj : j = i
      · subst hj
        rw [hi] at e1; cases e1
        rw [List.getElem?_set_self hiσ] at e2
        cases e2
        exact ⟨u, r, .inr ⟨.inl hk, c, hc, hc'⟩⟩
      · rw [List.getElem?_set_ne (Ne.symm hj)] at e2
        obtain ⟨u', r', q⟩ := hl j y v' e1 e2 e3
        refine ⟨u', r', ?_⟩
        rcases q with q | ⟨k, c', e, z'⟩
        · exact .inl q
        · refine .inr ⟨k, c', e, z'.sameBut hs ?_⟩
          rintro rfl
          exact hj (nodup_ix hN e1 (I.ok.inj _ _ _ e hc ▸ hi))
    · by_cases hcc : c' = c
      · subst hcc; exact ⟨_, hc'⟩
      · obtain ⟨w2, z2⟩ := I.cell y c' e
        exact ⟨w2, z2.sameBut hs hcc⟩
    · obtain ⟨e, n, ne, nf, d⟩ := I.pin p hp
      refine ⟨(hs.2 p.1 ?_).trans e, n, ne, nf, d⟩
      intro q
      rw [q, hoc] at e
      have q' : oc = p.2 := Option.some.inj e
      exact d w' (by rw [<- q']; exact hocd)
theorem store_ok {M : Model} {A : Around} {E : Value -> Shared -> Prop} {i : Nat} {x : Str} {v : V} {u : Value} {Q : Unit -> Shared -> Prop} (I : Inv X pins σ H s) (hN : X.N.Nodup) (hi : X.N[i]? = some x) (hx : Loc X.env.scope x) (r : RelV v u)
    (h : ∀ s', Inv X pins (σ.set i (some v)) H s' -> Q () s') (hf : X.fn x = true \/ X.env.scope.names.lookup x = some .local := by first | exact .inl rfl | exact .inr rfl | assumption) : wpAny M A (storeName X.env x u) Q E s :=
  store_ok2 I hN hi hx r (fun s' I' _ => h s' I') hf
theorem Inv.call' {s' : Shared} {ch : List Addr} (I : Inv X pins σ H s) (ho : s'.os = s.os) (u : Un (frs X.stack) ch H H' s.heap s'.heap) (hok : HOk X.prog X.w H' s'.heap) (hg : AllBare s'.gens)
    (hch : ∀ b ∈ ch, (b ∈ X.ex \/ X.s₀.heap.objs.size <= b) /\ b ≠ X.env.locals /\ (∀ x c, X.env.cells.lookup x = some c -> c ≠ b) /\ ∀ p ∈ X.pn ++ pins, p.1 ≠ b) : Inv X pins σ H' s' := by
  obtain ⟨h', g', d', t', o'⟩ := s'
  have e : o' = s.os := ho
  subst e
  exact I.call (g' := g') (t' := t') (d' := d') u hok hg hch
end
abbrev XK := Value -> Option Addr -> Hp -> Prop
abbrev St := List (Option V)
abbrev VK := V -> Hp -> Prop
abbrev TE := St -> Hp -> VK -> Prop
abbrev TT := St -> Hp -> (Bool -> Hp -> Prop) -> Prop
abbrev TA := St -> Hp -> (List V -> Hp -> Prop) -> Prop
structure Ends where
  nx : St -> Hp -> Prop
  rt : VK
  bk : St -> Hp -> Prop := fun _ _ => False
  ct : St -> Hp -> Prop := fun _ _ => False
abbrev TS := Ends -> St -> Hp -> Prop
def EP (X : Cx) (pins : List (Addr × Obj)) (σ : St) (Q : VK) (u : Value) (s' : Shared) : Prop := ∃ v H', Inv X pins σ H' s' /\ RelV v u /\ Q v H'
def TP (X : Cx) (pins : List (Addr × Obj)) (σ : St) (Q : Bool -> Hp -> Prop) (b : Bool) (s' : Shared) : Prop := ∃ H', Inv X pins σ H' s' /\ Q b H'
def AP (X : Cx) (pins : List (Addr × Obj)) (σ : St) (Q : List V -> Hp -> Prop) (us : List Value) (s' : Shared) : Prop := ∃ vs H', Inv X pins σ H' s' /\ Vals vs us /\ Q vs H'
def SP (X : Cx) (pins : List (Addr × Obj)) (D : Ends) (f : Flow) (s' : Shared) : Prop :=
  match f with
  | .next => ∃ σ' H', Inv X pins σ' H' s' /\ D.nx σ' H'
  | .brk => ∃ σ' H', Inv X pins σ' H' s' /\ D.bk σ' H'
  | .cont => ∃ σ' H', Inv X pins σ' H' s' /\ D.ct σ' H'
  | .ret u => ∃ v σ' H', Inv X pins σ' H' s' /\ RelV v u /\ D.rt v H'
def PE (X : Cx) (e : Expr) (t : TE) : Prop :=
  ∀ (pins : List (Addr × Obj)) (s : Shared) (σ : St) (H : Hp) (Q : VK), Inv X pins σ H s -> t σ H Q -> wpAny (model X.prog X.w) X.A (eval e X.env) (EP X pins σ Q) X.xe s
def PT (X : Cx) (e : Expr) (t : TT) : Prop :=
  ∀ (pins : List (Addr × Obj)) (s : Shared) (σ : St) (H : Hp) (Q : Bool -> Hp -> Prop), Inv X pins σ H s -> t σ H Q -> wpAny (model X.prog X.w) X.A (isTrue e X.env (eval e X.env)) (TP X pins σ Q) X.xe s
def PW (X : Cx) (e : Expr) (t : TT) : Prop :=
  ∀ (whole : Sem Value) (pins : List (Addr × Obj)) (s : Shared) (σ : St) (H : Hp) (Q : Bool -> Hp -> Prop), Inv X pins σ H s -> t σ H Q -> wpAny (model X.prog X.w) X.A (isTrue e X.env whole) (TP X pins σ Q) X.xe s
theorem PW.pt {X : Cx} {e : Expr} {t : TT} (h : PW X e t) : PT X e t := h _
def PA (X : Cx) (es : List Expr) (t : TA) : Prop :=
  ∀ (pos : Pos) (pins : List (Addr × Obj)) (s : Shared) (σ : St) (H : Hp) (Q : List V -> Hp -> Prop), Inv X pins σ H s -> t σ H Q -> wpAny (model X.prog X.w) X.A (spliced (backTo pos (starEach es X.env))) (AP X pins σ Q) X.xe s
def PS (X : Cx) (st : Stmt) (t : TS) : Prop :=
  ∀ (pins : List (Addr × Obj)) (s : Shared) (σ : St) (H : Hp) (D : Ends), Inv X pins σ H s -> t D σ H -> wpAny (model X.prog X.w) X.A (exec st X.env) (SP X pins D) X.xe s
def PSs (X : Cx) (st : List Stmt) (t : TS) : Prop :=
  ∀ (pins : List (Addr × Obj)) (s : Shared) (σ : St) (H : Hp) (D : Ends), Inv X pins σ H s -> t D σ H -> wpAny (model X.prog X.w) X.A (execs st X.env) (SP X pins D) X.xe s
theorem thn {α : Type} {t : Sem α} {Q Q' : α -> Shared -> Prop} {M : Model} {A : Around} {E : Value -> Shared -> Prop} {s : Shared} (h : wpAny M A t Q E s) (hQ : ∀ a s, Q a s -> Q' a s) : wpAny M A t Q' E s := wpAny_mono h hQ fun _ _ x => x
section
variable {X : Cx}
def tVar (i : Nat) : TE := fun σ H Q => ∃ v, σ[i]? = some (some v) /\ Q v H
def tC (v : V) : TE := fun _ H Q => Q v H
theorem pe_var {i : Nat} {x : Str} {pos : Pos} (hN : X.N[i]? = some x) (hv : Vis X.env.scope x) (hd : (x == ("__debug__" : Str)) = false := by decide) (hcd : (x == ("__classdict__" : Str)) = false := by decide) : PE X (.Name x pos) (tVar i) := by
  intro pins s σ H Q I h
  obtain ⟨v, e, h⟩ := h
  obtain ⟨m, hn, hl⟩ := I.loc
  obtain ⟨u, r, l⟩ := hl i x v hN e hv
  have fin : EP X pins σ Q u s := ⟨v, H, I, r, h⟩
  rcases l with ⟨hk, hm⟩ | ⟨hk, c, hc, hcell⟩
  · exact wpAny_Name (wpAny_loadName_local I.ok.kind hk hn hm fin) hd
  · rcases hk with hk | hk
    · exact wpAny_Name (wpAny_loadName_cell I.ok.kind hk hc hcell fin) hd
    · exact wpAny_Name (wpAny_loadName_free I.ok.kind hk hc hcell fin hcd) hd
theorem pe_int {i j pos} : PE X (.Constant (.int i) j pos) (tC (.int i)) := fun _ _ _ H _ I h => wpAny_Constant_int ⟨.int i, H, I.tok _, ⟨_, rfl⟩, h⟩
theorem pe_bl {b j pos} : PE X (.Constant (.bool b) j pos) (tC (.bl b)) := fun _ _ _ H _ I h => Constant_bool ⟨.bl b, H, I, rfl, h⟩
theorem pe_non {j pos} : PE X (.Constant .none j pos) (tC .non) := fun _ _ _ H _ I h => Constant_none ⟨.non, H, I, rfl, h⟩
def Gl (X : Cx) (x : Str) : Prop := X.env.kindOf x = some .globalImplicit
theorem ld_glob {E : Value -> Shared -> Prop} {pins : List (Addr × Obj)} {s : Shared} {σ : St} {H : Hp} {x : Str} {u : Value} {pos : Pos} {Q : Value -> Shared -> Prop} (I : Inv X pins σ H s) (hg : Gl X x) (hm : X.mg x = some u) (h : Q u s)
    (hd : (x == ("__debug__" : Str)) = false := by decide) : wpAny (model X.prog X.w) X.A (eval (.Name x pos) X.env) Q E s :=
  Calls.Name_function_global I.ok.kind hg (Calls.loadGlobal_global (by rw [I.ok.glob]; exact I.mod.glob.keeps I.bk) hm h) hd
theorem ld_blt {E : Value -> Shared -> Prop} {pins : List (Addr × Obj)} {s : Shared} {σ : St} {H : Hp} {x : Str} {u : Value} {pos : Pos} {Q : Value -> Shared -> Prop} (I : Inv X pins σ H s) (hg : Gl X x) (hm : X.mg x = none) (hv : bootBuiltins x = some u) (h : Q u s)
    (hn : x ≠ "__name__" := by decide) (hd : (x == ("__debug__" : Str)) = false := by decide) : wpAny (model X.prog X.w) X.A (eval (.Name x pos) X.env) Q E s := by
  obtain ⟨mb, h1, h2⟩ := I.mod.blt
  exact Calls.Name_function_global I.ok.kind hg (Calls.loadGlobal_builtin (by rw [I.ok.glob]; exact I.mod.glob.keeps I.bk) hm (by rw [I.ok.blt]; exact h1.keeps I.bk) ((h2 x hn).trans hv) h) hd
theorem pe_glob {x : Str} {v : V} {u : Value} {pos : Pos} (hg : Gl X x) (hm : X.mg x = some u) (r : RelV v u) (hd : (x == ("__debug__" : Str)) = false := by decide) : PE X (.Name x pos) (tC v) :=
  fun _ _ _ H _ I h => ld_glob I hg hm ⟨v, H, I, r, h⟩ hd
theorem pe_bltn {x : Str} {v : V} {u : Value} {pos : Pos} (hg : Gl X x) (hm : X.mg x = none) (hv : bootBuiltins x = some u) (r : RelV v u) (hn : x ≠ "__name__" := by decide) (hd : (x == ("__debug__" : Str)) = false := by decide) : PE X (.Name x pos) (tC v) :=
  fun _ _ _ H _ I h => ld_blt I hg hm hv ⟨v, H, I, r, h⟩ hn hd
variable {a b : Expr} {ta tb : TE} {pos : Pos}
def tB (t : TE) : TT := fun σ H Q => t σ H fun x H1 => ∃ c, x = .bl c /\ Q c H1
theorem pt_val {e : Expr} {t : TE} (h : PE X e t) (he : ∀ whole, isTrue e X.env whole = (do let v <- whole; standAt e.pos; holding [v] (truthy v)) := by intro _; rfl) : PT X e (tB t) := by
  intro pins s σ H Q I hw
  refine isTrue_plain (thn (h pins s σ H _ I hw) fun v s1 ⟨x, H1, I1, r1, q1⟩ => ?_) (he _)
  obtain ⟨d, rfl, q⟩ := q1
  cases r1
  exact wpAny_truthy_bool ⟨H1, I1, q⟩
variable {tA tB' : TT} {rest : List Expr}
def tOr (t u : TT) : TT := fun σ H Q => t σ H fun c H1 => if c = true then Q true H1 else u σ H1 Q
def tNot (t : TT) : TT := fun σ H Q => t σ H fun c H1 => Q (!c) H1
theorem pw_or1 (ha : PT X a tA) : PW X (.BoolOp .Or [a] pos) tA := by
  intro wh pins s σ H Q I h
  refine isTrue_or (thn (ha pins s σ H Q I h) fun c s1 e => ?_)
  cases c with
  | false => exact isTrue_or_nil e
  | true => exact e
theorem pw_or (ha : PT X a tA) (hb : PW X (.BoolOp .Or (b :: rest) pos) tB') : PW X (.BoolOp .Or (a :: b :: rest) pos) (tOr tA tB') := by
  intro wh pins s σ H Q I h
  refine isTrue_or (thn (ha pins s σ H _ I h) fun c s1 ⟨H1, I1, q1⟩ => ?_)
  cases c with
  | true => exact ⟨H1, I1, q1⟩
  | false => exact hb wh pins s1 σ H1 Q I1 q1
theorem pt_not (ha : PT X a tA) : PT X (.UnaryOp .Not a pos) (tNot tA) := by
  intro pins s σ H Q I h
  exact isTrue_not (ha pins s σ H (fun c H1 => Q (!c) H1) I h)
def tAndV (ta tb : TE) : TE := fun σ H Q => ta σ H fun x H1 => ∃ c, x = .bl c /\ if c = true then tb σ H1 Q else Q (.bl false) H1
def tNotV (ta : TE) : TE := fun σ H Q => ta σ H fun x H1 => ∃ c, x = .bl c /\ Q (.bl (!c)) H1
theorem pe_one {op} {t : TE} (h : PE X a t) : PE X (.BoolOp op [a] pos) t := fun pins s σ H Q I hw => BoolOp_one (h pins s σ H Q I hw)
theorem pe_and (ha : PE X a ta) (hb : PE X (.BoolOp .And (b :: rest) pos) tb) : PE X (.BoolOp .And (a :: b :: rest) pos) (tAndV ta tb) := by
  intro pins s σ H Q I h
  refine BoolOp_and (thn (ha pins s σ H _ I h) fun v s1 ⟨x, H1, I1, r1, q1⟩ => ?_)
  obtain ⟨c, rfl, q1⟩ := q1
  cases r1
  refine wpAny_truthy_bool ?_
  cases c with
  | true => exact hb pins s1 σ H1 Q I1 q1
  | false => exact ⟨.bl false, H1, I1, rfl, q1⟩
theorem pe_not (ha : PE X a ta) : PE X (.UnaryOp .Not a pos) (tNotV ta) := by
  intro pins s σ H Q I h
  refine UnaryOp_ (thn (ha pins s σ H _ I h) fun v s1 ⟨x, H1, I1, r1, q1⟩ => ?_)
  obtain ⟨c, rfl, q1⟩ := q1
  cases r1
  exact not_of (wpAny_truthy_bool ⟨.bl (!c), H1, I1, rfl, q1⟩)
def tIf (t : TT) (ta tb : TE) : TE := fun σ H Q => t σ H fun c H1 => if c = true then ta σ H1 Q else tb σ H1 Q
theorem pe_ifExp {c : Expr} (hc : PT X c tA) (ha : PE X a ta) (hb : PE X b tb) : PE X (.IfExp c a b pos) (tIf tA ta tb) := by
  intro pins s σ H Q I h
  refine wpAny_IfExp (thn (hc pins s σ H _ I h) fun d s1 ⟨H1, I1, q1⟩ => ?_)
  cases d with
  | true => exact ha pins s1 σ H1 Q I1 q1
  | false => exact hb pins s1 σ H1 Q I1 q1
end
def SqL (K : PySem.W.Frag) (H : Hp) (a : Addr) (xs : List V) : Prop :=
  Rd H a (.lst xs) \/
    ∃ (o : Obj) (its : Array Value) (n : Nat), K.lookup a = some o /\ o.cls = .type "list" /\ o.dict = none /\ o.data = .seq its n /\ its.size <= sizeLine /\ Vals xs its.toList
def SqT (K : PySem.W.Frag) (H : Hp) (a : Addr) (xs : List V) : Prop :=
  Rd H a (.tup xs) \/
    ∃ (o : Obj) (its : Array Value) (n : Nat), K.lookup a = some o /\ o.cls = .type "tuple" /\ o.data = .seq its n /\ its.size <= sizeLine /\ Vals xs its.toList
def absV : Value -> Option V
  | .none => some .non
  | .bool b => some (.bl b)
  | .int i _ => some (.int i)
  | .str x _ => some (.str x)
  | .bytes b _ => some (.byt b)
  | .float b _ => some (.flt b)
  | .ref a => some (.ref a)
  | .type n => some (.ty n)
  | _ => none
theorem RelV.abs {x : V} {u : Value} (r : RelV x u) : absV u = some x := by
  cases x with
  | non => cases r; rfl
  | bl _ => cases r; rfl
  | int _ => obtain ⟨t, rfl⟩ := r; rfl
  | str _ => obtain ⟨t, rfl⟩ := r; rfl
  | byt _ => obtain ⟨t, rfl⟩ := r; rfl
  | flt _ => obtain ⟨t, rfl⟩ := r; rfl
  | ref _ => cases r; rfl
  | ty _ => cases r; rfl
theorem RelV.inj {x y : V} {u : Value} (r : RelV x u) (q : RelV y u) : x = y := Option.some.inj (r.abs.symm.trans q.abs)
theorem Vals.inj : ∀ {xs ys : List V} {us : List Value}, Vals xs us -> Vals ys us -> xs = ys
  | _, _, _, .nil, .nil => rfl
  | _, _, _, .cons r t, .cons r' t' => by rw [r.inj r', Vals.inj t t']
section
variable {X : Cx} {pins : List (Addr × Obj)} {σ : St} {H : Hp} {s : Shared} {a : Addr} {xs ys : List V}
theorem SqL.of {K : PySem.W.Frag} (h : H a = some (.lst xs)) : SqL K H a xs := .inl (.inl h)
theorem SqT.of {K : PySem.W.Frag} (h : H a = some (.tup xs)) : SqT K H a xs := .inl (.inl h)
theorem Inv.list (I : Inv X pins σ H s) (h : SqL X.K H a xs) : ∃ its : List Value, Vals xs its /\ PlainL s.heap a its.toArray /\ xs.length <= sizeLine := by
  rcases h with h | ⟨o, its, n, hk, hc, hd, hs, hz, r⟩
  · obtain ⟨z, its, n, r, e⟩ := h.ok I.hok
    exact ⟨its, r, ⟨_, n, e, rfl, rfl, rfl⟩, z⟩
  · refine ⟨its.toList, r, ⟨o, n, I.kIn a o hk, hc, hd, by simpa using hs⟩, ?_⟩
    have e := r.length
    simp only [Array.length_toList] at e
    lia
theorem Inv.tuple (I : Inv X pins σ H s) (h : SqT X.K H a xs) : ∃ its : List Value, Vals xs its /\ IsTup s.heap a its.toArray /\ xs.length <= sizeLine := by
  rcases h with h | ⟨o, its, n, hk, hc, hs, hz, r⟩
  · obtain ⟨z, its, r, p⟩ := h.ok I.hok
    exact ⟨its, r, p, z⟩
  · refine ⟨its.toList, r, ⟨o, I.kIn a o hk, hc, n, by simpa using hs⟩, ?_⟩
    have e := r.length
    simp only [Array.length_toList] at e
    lia
theorem Inv.list_inj (I : Inv X pins σ H s) (h : SqL X.K H a xs) (h' : SqL X.K H a ys) : xs = ys := by
  obtain ⟨its, r, ⟨o, n, e, _, _, d⟩, _⟩ := I.list h
  obtain ⟨its', r', ⟨o', n', e', _, _, d'⟩, _⟩ := I.list h'
  rw [e] at e'; cases e'
  rw [d] at d'
  injection d' with d1 _
  have : its = its' := by simpa using congrArg Array.toList d1
  subst this
  exact r.inj r'
theorem Inv.tuple_inj (I : Inv X pins σ H s) (h : SqT X.K H a xs) (h' : SqT X.K H a ys) : xs = ys := by
  obtain ⟨its, r, ⟨o, e, _, n, d⟩, _⟩ := I.tuple h
  obtain ⟨its', r', ⟨o', e', _, n', d'⟩, _⟩ := I.tuple h'
  rw [e] at e'; cases e'
  rw [d] at d'
  injection d' with d1 _
  have : its = its' := by simpa using congrArg Array.toList d1
  subst this
  exact r.inj r'
end
abbrev Cx.wish (X : Cx) (E : Value -> Shared -> Prop) : Cx := { X with xe := E }
abbrev Cx.nox (X : Cx) : Cx := X.wish fun _ _ => False
theorem Cx.Ok.wish {X : Cx} (ok : X.Ok) (E : Value -> Shared -> Prop) : (X.wish E).Ok :=
  ⟨ok.mod, ok.kind, ok.glob, ok.blt, ok.above, ok.inj, ok.has, ok.cab, ok.hd, ok.frames, ok.stk, ok.exf, ok.bs, ok.bsz, ok.noex, ok.exfs, ok.funs, ok.frf⟩
theorem Cx.Ok.unwish {X : Cx} {E : Value -> Shared -> Prop} (ok : (X.wish E).Ok) : X.Ok :=
  ⟨ok.mod, ok.kind, ok.glob, ok.blt, ok.above, ok.inj, ok.has, ok.cab, ok.hd, ok.frames, ok.stk, ok.exf, ok.bs, ok.bsz, ok.noex, ok.exfs, ok.funs, ok.frf⟩
section
variable {X : Cx} {pins : List (Addr × Obj)} {σ : St} {H : Hp} {s : Shared} {E : Value -> Shared -> Prop}
theorem Inv.wish (I : Inv X pins σ H s) (E : Value -> Shared -> Prop) : Inv (X.wish E) pins σ H s := ⟨I.ok.wish E, I.os, I.bare, I.base, I.loc, I.cell, I.free, I.freeC, I.pin, I.hok, I.len⟩
theorem Inv.unwish (I : Inv (X.wish E) pins σ H s) : Inv X pins σ H s := ⟨I.ok.unwish, I.os, I.bare, I.base, I.loc, I.cell, I.free, I.freeC, I.pin, I.hok, I.len⟩
theorem SP.unwish {D : Ends} {f : Flow} {s' : Shared} (h : SP (X.wish E) pins D f s') : SP X pins D f s' := by
  cases f with
  | next => obtain ⟨σ', H', I, q⟩ := h; exact ⟨σ', H', I.unwish, q⟩
  | brk => obtain ⟨σ', H', I, q⟩ := h; exact ⟨σ', H', I.unwish, q⟩
  | cont => obtain ⟨σ', H', I, q⟩ := h; exact ⟨σ', H', I.unwish, q⟩
  | ret u => obtain ⟨v, σ', H', I, r, q⟩ := h; exact ⟨v, σ', H', I.unwish, r, q⟩
theorem PSs.nox {st : List Stmt} {t : TS} (h : PSs X.nox st t) : PSs X st t := fun pins s σ H D I hw =>
  wpAny_mono (h pins s σ H D (I.wish _) hw) (fun _ _ q => q.unwish) fun _ _ z => False.elim z
end
section
variable {X : Cx} {st : Stmt} {rest : List Stmt} {t u : TS} {e : Expr} {te : TE} {pos : Pos}
def tNext : TS := fun D σ H => D.nx σ H
def tSeq (t u : TS) : TS := fun D σ H => t { D with nx := u D } σ H
theorem pss_nil : PSs X [] tNext := fun _ _ σ H _ I h => wpAny_execs_nil ⟨σ, H, I, h⟩
theorem pss_cons (h1 : PS X st t) (h2 : PSs X rest u) : PSs X (st :: rest) (tSeq t u) := by
  intro pins s σ H D I h
  refine wpAny_execs_cons (thn (h1 pins s σ H { D with nx := u D } I h) fun f s1 q => ?_)
  cases f with
  | next =>
    obtain ⟨σ', H', I', q⟩ := q
    exact h2 pins s1 σ' H' D I' q
  | ret v => exact q
  | brk => exact q
  | cont => exact q
theorem pss_one (h1 : PS X st t) : PSs X [st] t := by
  intro pins s σ H D I h
  refine wpAny_execs_cons (thn (h1 pins s σ H D I h) fun f s1 q => ?_)
  cases f with
  | next => exact wpAny_execs_nil q
  | ret v => exact q
  | brk => exact q
  | cont => exact q
theorem Inv.quiet {pins : List (Addr × Obj)} {σ : St} {H : Hp} {s : Shared} (I : Inv X pins σ H s) : interactive X.env = false := by simp [interactive, I.ok.kind]
def tDrop (te : TE) : TS := fun D σ H => te σ H fun _ H1 => D.nx σ H1
theorem ps_expr (he : PE X e te) (hs : swapsWith e none pos.line X.env = pure false := by rfl) : PS X (.Expr e pos) (tDrop te) := by
  intro pins s σ H D I h
  exact wpAny_Expr_any (thn (he pins s σ H _ I h) fun v s1 ⟨x, H1, I1, r1, q1⟩ => ⟨σ, H1, I1, q1⟩) I.quiet hs
def tRet (te : TE) : TS := fun D σ H => te σ H D.rt
theorem ps_ret (he : PE X e te) : PS X (.Return (some e) pos) (tRet te) := by
  intro pins s σ H D I h
  exact wpAny_Return_some (thn (he pins s σ H _ I h) fun v s1 ⟨x, H1, I1, r1, q1⟩ => ⟨x, σ, H1, I1, r1, q1⟩)
def tIfS (c : TT) (t u : TS) : TS := fun D σ H => c σ H fun b H1 => if b = true then t D σ H1 else u D σ H1
theorem ps_if {c : Expr} {a b : List Stmt} {tc : TT} (hc : PT X c tc) (ha : PSs X a t) (hb : PSs X b u) : PS X (.If c a b pos) (tIfS tc t u) := by
  intro pins s σ H D I h
  refine wpAny_If (thn (hc pins s σ H _ I h) fun d s1 ⟨H1, I1, q1⟩ => ?_)
  cases d with
  | true => exact ha pins s1 σ H1 D I1 q1
  | false => exact hb pins s1 σ H1 D I1 q1
def tNever : TS := fun _ _ _ => False
theorem pss_never {sts : List Stmt} : PSs X sts tNever := fun _ _ _ _ _ _ h => h.elim
end
abbrev TG := V -> St -> Hp -> (St -> Hp -> Prop) -> Prop
abbrev TGs := List V -> St -> Hp -> (St -> Hp -> Prop) -> Prop
def PG (X : Cx) (target : Expr) (t : TG) : Prop :=
  ∀ (pins : List (Addr × Obj)) (s : Shared) (σ : St) (H : Hp) (v : V) (u : Value) (Q : St -> Hp -> Prop), Inv X pins σ H s -> RelV v u -> t v σ H Q ->
    wpAny (model X.prog X.w) X.A (assign target X.env u) (fun _ s' => ∃ σ' H', Inv X pins σ' H' s' /\ Q σ' H') X.xe s
def PGs (X : Cx) (ts : List Expr) (t : TGs) : Prop :=
  ∀ (pins : List (Addr × Obj)) (s : Shared) (σ : St) (H : Hp) (vs : List V) (us : List Value) (Q : St -> Hp -> Prop), Inv X pins σ H s -> Vals vs us -> t vs σ H Q ->
    wpAny (model X.prog X.w) X.A (assignInOrder ((assignEach ts X.env).map (·.2)) us) (fun _ s' => ∃ σ' H', Inv X pins σ' H' s' /\ Q σ' H') X.xe s
abbrev TSet := V -> V -> V -> Hp -> (Hp -> Prop) -> Prop
def PSet (X : Cx) (t : TSet) : Prop :=
  ∀ (pins : List (Addr × Obj)) (s : Shared) (σ : St) (H : Hp) (o i v : V) (ov iv u : Value) (Q : Hp -> Prop), Inv X pins σ H s -> RelV o ov -> RelV i iv -> RelV v u -> t o i v H Q ->
    wpAny (model X.prog X.w) X.A (setItem ov iv u) (fun _ s' => ∃ H', Inv X pins σ H' s' /\ Q H') X.xe s
abbrev TIp := V -> V -> Hp -> VK -> Prop
def PIp (X : Cx) (op : Operator) (t : TIp) : Prop :=
  ∀ (pins : List (Addr × Obj)) (s : Shared) (σ : St) (H : Hp) (x y : V) (v u : Value) (Q : VK), Inv X pins σ H s -> RelV x v -> RelV y u -> t x y H Q ->
    wpAny (model X.prog X.w) X.A (inplaceOp op v u) (EP X pins σ Q) X.xe s
section
variable {X : Cx} {pos : Pos}
def gName (i : Nat) : TG := fun v σ H Q => Q (σ.set i (some v)) H
theorem pg_name {i : Nat} {x : Str} (hN : X.N.Nodup) (hi : X.N[i]? = some x) (hx : Loc X.env.scope x) (hf : X.fn x = true \/ X.env.scope.names.lookup x = some .local := by first | exact .inl rfl | exact .inr rfl | assumption) : PG X (.Name x pos) (gName i) := by
  intro pins s σ H v u Q I r h
  exact wpAny_assign_Name (store_ok I hN hi hx r (fun s' I' => ⟨_, H, I', h⟩) hf)
def gNil : TGs := fun vs σ H Q => vs = [] /\ Q σ H
def gCons (t : TG) (u : TGs) : TGs := fun vs σ H Q => ∃ v r, vs = v :: r /\ t v σ H fun σ' H' => u r σ' H' Q
theorem pgs_nil : PGs X [] gNil := by
  intro pins s σ H vs us Q I r h
  obtain ⟨e, h⟩ := h
  subst e
  cases r
  exact assignInOrder_nil ⟨σ, H, I, h⟩
theorem pgs_cons {e : Expr} {es : List Expr} {t : TG} {u : TGs} (h1 : PG X e t) (h2 : PGs X es u)
    (hs : (assignEach (e :: es) X.env).map (·.2) = assign e X.env :: (assignEach es X.env).map (·.2) := by rfl) : PGs X (e :: es) (gCons t u) := by
  intro pins s σ H vs us Q I r h
  obtain ⟨v, vr, e1, h⟩ := h
  subst e1
  cases r with
  | cons r rr =>
    rw [hs]
    refine assignInOrder_cons (thn (h1 pins s σ H _ _ _ I r h) fun _ s1 ⟨σ1, H1, I1, q1⟩ => ?_)
    exact h2 pins s1 σ1 H1 _ _ Q I1 rr q1
def gTup (K : PySem.W.Frag) (n : Nat) (t : TGs) : TG := fun v σ H Q => ∃ a xs, v = .ref a /\ SqT K H a xs /\ xs.length = n /\ t xs σ H Q
theorem pg_tup {es : List Expr} {k : Nat} {t : TGs} {n : Nat} (hc : X.calm = true) (h : PGs X es t)
    (hn : (assignEach es X.env).length = n := by rfl) (hst : (assignEach es X.env).findIdx? (·.1) = none := by rfl) : PG X (.Tuple es k pos) (gTup X.K n t) := by
  intro pins s σ H v u Q I r hw
  obtain ⟨a, xs, e1, hq, hl, hw⟩ := hw
  subst e1
  cases r
  obtain ⟨its, rv, ht, hz⟩ := I.tuple hq
  refine assign_Tuple_tuple (I.ok.hd hc) ht (by simp [hn, <- hl, rv.length]) hst fun h' hx => ?_
  have I1 : Inv X pins σ H { s with heap := h' } := I.kept (t' := s.toks) fun b o e => hx b o (Nat.ne_of_lt (Heap.lt_size e)) e
  exact h pins _ σ H xs _ Q I1 (by simpa using rv) hw
def tAsg (te : TE) (g : TG) : TS := fun D σ H => te σ H fun x H1 => g x σ H1 D.nx
theorem ps_asg {tg e : Expr} {te : TE} {g : TG} (he : PE X e te) (hg : PG X tg g) (hs : swapsWithSole [tg] e pos.line X.env = pure false := by rfl) (hw : swappedStores [tg] e X.env = pure none := by rfl)
    (h1 : (assignEach [tg] X.env).map (·.2) = [assign tg X.env] := by rfl) : PS X (.Assign [tg] e pos) (tAsg te g) := by
  intro pins s σ H D I h
  refine wpAny_Assign_stores (thn (he pins s σ H _ I h) fun v s1 ⟨x, H1, I1, r1, q1⟩ => ?_) hs hw
  rw [h1]
  exact thn (hg pins s1 σ H1 x v _ I1 r1 q1) fun _ s2 q => q
theorem ps_set {i : Nat} {x : Str} {e : Expr} {te : TE} {pos' : Pos} (hN : X.N.Nodup) (hi : X.N[i]? = some x) (hx : Loc X.env.scope x) (he : PE X e te) (hs : swapsWith e (some (.Name x pos')) pos.line X.env = pure false := by rfl) (hf : X.fn x = true \/ X.env.scope.names.lookup x = some .local := by first | exact .inl rfl | exact .inr rfl | assumption) :
    PS X (.Assign [.Name x pos'] e pos) (tAsg te (gName i)) := by
  intro pins s σ H D I h
  refine wpAny_Assign_Name (thn (he pins s σ H _ I h) fun v s1 ⟨y, H1, I1, r1, q1⟩ => ?_) hs
  exact store_ok I1 hN hi hx r1 (fun s2 I2 => ⟨_, H1, I2, q1⟩) hf
def tAugS (to ti te : TE) (tget : V -> V -> Hp -> VK -> Prop) (tip : TIp) (tset : TSet) : TS := fun D σ H => to σ H fun o H1 => ti σ H1 fun i H2 => tget o i H2 fun x H3 => te σ H3 fun y H4 => tip x y H4 fun z H5 => tset o i z H5 fun H6 => D.nx σ H6
def PGet (X : Cx) (t : V -> V -> Hp -> VK -> Prop) : Prop :=
  ∀ (pins : List (Addr × Obj)) (s : Shared) (σ : St) (H : Hp) (o i : V) (ov iv : Value) (Q : VK), Inv X pins σ H s -> RelV o ov -> RelV i iv -> t o i H Q ->
    wpAny (model X.prog X.w) X.A (getItem ov iv) (EP X pins σ Q) X.xe s
theorem ps_augS {o i e : Expr} {to ti te : TE} {tget : V -> V -> Hp -> VK -> Prop} {tip : TIp} {tset : TSet} {op : Operator} {tpos : Pos} (ho : PE X o to) (hi : PE X i ti) (hg : PGet X tget) (he : PE X e te) (hp : PIp X op tip) (hs : PSet X tset)
    (ha : ∀ ov iv new, augStore i ov iv new = (do holding [new, ov, iv] (setItem ov iv new); release [new, ov, iv] []; pure .next) := by intros; rfl) : PS X (.AugAssign (.Subscript o i tpos) op e pos) (tAugS to ti te tget tip tset) := by
  intro pins s σ H D I h
  refine wpAny_AugAssign_SubscriptAny (thn (ho pins s σ H _ I h) fun ov s1 ⟨x1, H1, I1, r1, q1⟩ => ?_) ha
  refine thn (hi pins s1 σ H1 _ I1 q1) fun iv s2 ⟨x2, H2, I2, r2, q2⟩ => ?_
  refine thn (hg pins s2 σ H2 x1 x2 ov iv _ I2 r1 r2 q2) fun old s3 ⟨x3, H3, I3, r3, q3⟩ => ?_
  refine thn (he pins s3 σ H3 _ I3 q3) fun v s4 ⟨x4, H4, I4, r4, q4⟩ => ?_
  refine thn (hp pins s4 σ H4 x3 x4 old v _ I4 r3 r4 q4) fun new s5 ⟨x5, H5, I5, r5, q5⟩ => ?_
  exact thn (hs pins s5 σ H5 x1 x2 x5 ov iv new _ I5 r1 r2 r5 q5) fun _ s6 ⟨H6, I6, q6⟩ => ⟨σ, H6, I6, q6⟩
def ipI (f : Int -> Int -> Int) : TIp := fun x y H Q => ∃ i j, x = .int i /\ y = .int j /\ Q (.int (f i j)) H
theorem ip_add : PIp X .Add (ipI fun i j => i + j) := by
  intro pins s σ H x y v u Q I r1 r2 h
  obtain ⟨i, j, e1, e2, q⟩ := h
  subst e1; subst e2
  obtain ⟨t, rfl⟩ := r1
  obtain ⟨t', rfl⟩ := r2
  exact iadd_int ⟨.int _, H, I.tok _, ⟨_, rfl⟩, q⟩
theorem ip_sub : PIp X .Sub (ipI fun i j => i - j) := by
  intro pins s σ H x y v u Q I r1 r2 h
  obtain ⟨i, j, e1, e2, q⟩ := h
  subst e1; subst e2
  obtain ⟨t, rfl⟩ := r1
  obtain ⟨t', rfl⟩ := r2
  exact isub_int ⟨.int _, H, I.tok _, ⟨_, rfl⟩, q⟩
end
structure It where
  go : Nat -> Hp -> Prop
  yld : Nat -> Hp -> V -> Hp -> Prop
  stop : Nat -> Hp -> Prop
def FpOk (X : Cx) (pins : List (Addr × Obj)) (H : Hp) (b : Addr) : Prop :=
  H b = none /\ b ≠ X.env.locals /\ b ∉ X.fs /\ (b ∈ X.ex \/ X.s₀.heap.objs.size <= b) /\ (∀ x c, X.env.cells.lookup x = some c -> c ≠ b) /\ ∀ p ∈ X.pn ++ pins, p.1 ≠ b
theorem Inv.fpOk {X : Cx} {pins : List (Addr × Obj)} {σ : St} {H H' : Hp} {s : Shared} {b : Addr} (I : Inv X pins σ H s) (hb : s.heap.objs.size <= b) (hn : H' b = none) : FpOk X pins H' b := by
  refine ⟨hn, Nat.ne_of_gt (Nat.lt_of_lt_of_le I.lt hb), I.nofs hb, .inr (Nat.le_trans I.sz hb), fun x c e z => ?_, fun p hp z => ?_⟩
  · obtain ⟨v, q⟩ := I.cell x c e
    exact absurd (Nat.lt_of_lt_of_le q.lt (by rw [z]; exact hb)) (Nat.lt_irrefl _)
  · exact absurd (Nat.lt_of_lt_of_le (Heap.lt_size (I.pin p hp).1) (by rw [z]; exact hb)) (Nat.lt_irrefl _)
structure Turn (P : Program) (w : World) (K : PySem.W.Frag) (tg : Expr) (J : It) (fp : List Addr) (it : Addr) (tn : Nat -> Heap -> Prop) : Prop where
  mem : it ∈ fp
  obj : ∀ i h, tn i h -> ∀ b ∈ fp, ∃ o, h.get? b = some o /\ ∀ v, o.data ≠ .cell v
  keep : ∀ i h h', tn i h -> (∀ b ∈ fp, ∀ o, h.get? b = some o -> h'.get? b = some o) -> tn i h'
  item : ∀ (X : Cx), X.prog = P -> X.w = w -> X.K = K -> X.calm = true -> ∀ (i : Nat) (pins : List (Addr × Obj)) (s : Shared) (σ : St) (H : Hp) (E : Value -> Shared -> Prop), Inv X pins σ H s -> (∀ b ∈ fp, FpOk X pins H b) -> tn i s.heap -> J.go i H ->
    wpAny (model P w) X.A (pyNext (.ref it)) (fun r s1 => ∃ u, r = some u /\
      wpAny (model P w) X.A (letOwnedTupleGo tg (.ref it) u) (fun _ s2 => ∃ x H', Inv X pins σ H' s2 /\ RelV x u /\ J.yld i H x H' /\ tn (i + 1) s2.heap /\ ∀ b ∈ fp, H' b = none) E s1) E s
  done : ∀ (X : Cx), X.prog = P -> X.w = w -> X.K = K -> X.calm = true -> ∀ (i : Nat) (pins : List (Addr × Obj)) (s : Shared) (σ : St) (H : Hp) (E : Value -> Shared -> Prop), Inv X pins σ H s -> (∀ b ∈ fp, FpOk X pins H b) -> tn i s.heap -> J.stop i H ->
    wpAny (model P w) X.A (pyNext (.ref it)) (fun r s1 => r = none /\ Inv X pins σ H s1) E s
  self : ∀ (A : Around) (i : Nat) (s : Shared) (Q : Value -> Shared -> Prop) (E : Value -> Shared -> Prop), tn i s.heap -> Q (.ref it) s -> wpAny (model P w) A (pyIter (.ref it)) Q E s
abbrev TI := St -> Hp -> (It -> Hp -> Prop) -> Prop
def PIE (X : Cx) (pins : List (Addr × Obj)) (σ : St) (tg : Expr) (R : It -> Hp -> Prop) (itv : Value) (s2 : Shared) : Prop :=
  ∃ (it : Addr) (fp : List Addr) (tn : Nat -> Heap -> Prop) (J : It) (H' : Hp), itv = .ref it /\ Inv X pins σ H' s2 /\ Turn X.prog X.w X.K tg J fp it tn /\ tn 0 s2.heap /\ (∀ b ∈ fp, FpOk X pins H' b) /\ R J H'
def PI (X : Cx) (tg iter : Expr) (wi : TI) : Prop :=
  ∀ (pins : List (Addr × Obj)) (s : Shared) (σ : St) (H : Hp) (R : It -> Hp -> Prop), Inv X pins σ H s -> wi σ H R ->
    wpAny (model X.prog X.w) X.A (eval iter X.env) (fun v s1 => wpAny (model X.prog X.w) X.A (pyIter v) (PIE X pins σ tg R) X.xe s1) X.xe s
theorem go_of {M : Model} {A : Around} {E : Value -> Shared -> Prop} {s : Shared} {tg : Expr} {it : Addr} {u : Value} {o : Obj} {n : String} {vs : Array Value} {Q : Unit -> Shared -> Prop} (ho : s.heap.get? it = some o) (hc : o.cls = .type n) (hd : o.data = .fields vs)
    (hn : ["enumerate", "zip", "dict_itemiterator", "dict_reverseitemiterator", "odict_iterator", "itertools.zip_longest", "itertools.pairwise"].contains n = false) (hQ : Q () s) : wpAny M A (letOwnedTupleGo tg (.ref it) u) Q E s := by
  unfold letOwnedTupleGo
  cases tg <;> first
    | exact wpAny_pure hQ
    | (cases u <;> first
        | exact wpAny_pure hQ
        | (refine wpAny_bind (wpAny_load ho ?_)
           rw [hc, hd]
           show wpAny M A (if (["enumerate", "zip", "dict_itemiterator", "dict_reverseitemiterator", "odict_iterator", "itertools.zip_longest", "itertools.pairwise"].contains n && vs[0]? == some (rawInt _)) = true then _ else _) Q E s
           rw [if_neg (by intro h; rw [hn, Bool.false_and] at h; cases h)]
           exact wpAny_pure hQ))
def Itl (K : PySem.W.Frag) (a : Addr) : It :=
  ⟨fun i H => ∃ xs x, SqL K H a xs /\ xs[i]? = some x, fun i H x H' => H' = H /\ ∀ xs, SqL K H a xs -> xs[i]? = some x, fun i H => ∃ xs, SqL K H a xs /\ xs.length <= i⟩
def Itt (K : PySem.W.Frag) (a : Addr) : It :=
  ⟨fun i H => ∃ xs x, SqT K H a xs /\ xs[i]? = some x, fun i H x H' => H' = H /\ ∀ xs, SqT K H a xs -> xs[i]? = some x, fun i H => ∃ xs, SqT K H a xs /\ xs.length <= i⟩
def Itr (lo : Int) (n : Nat) : It := ⟨fun i _ => i < n, fun i H x H' => H' = H /\ x = .int (lo + i), fun i _ => n <= i⟩
theorem turn_list {P : Program} {w : World} {K : PySem.W.Frag} {tg : Expr} (a it : Addr) : Turn P w K tg (Itl K a) [it] it (fun i h => h.IsListIter it a i) where
  mem := by simp
  obj := fun i h st b hb => by
    have e : b = it := by simpa using hb
    subst e
    obtain ⟨o, e, c, d⟩ := st
    exact ⟨o, e, fun v z => by rw [d] at z; cases z⟩
  keep := fun i h h' st k => st.at fun o e => k it (by simp) o e
  item := by
    intro X hP hw hK hc i pins s σ H E I hf st hg
    subst hP hw hK
    obtain ⟨xs, x, hq, hx⟩ := hg
    obtain ⟨its, rv, p, hz⟩ := I.list hq
    obtain ⟨u, hu, ru⟩ := rv.get hx
    obtain ⟨f0, f1, f2, f3, f4, f5⟩ := hf it (by simp)
    refine wpAny_pyNext_list_item st p.isList (x := u) (by simpa using hu) fun h' st' sb => ?_
    have I1 : Inv X pins σ H { s with heap := h' } := I.turned (t' := s.toks) (fun b o hb e => (sb.2 b hb).trans e) f0 f1 f3 f4 f5
    obtain ⟨o, e, c, d⟩ := id st'
    exact ⟨u, rfl, go_of (s := { s with heap := h' }) e c d (by decide) ⟨x, H, I1, ru, ⟨rfl, fun ys hy => by rw [I.list_inj hy hq]; exact hx⟩, st', fun b hb => (hf b hb).1⟩⟩
  done := by
    intro X hP hw hK hc i pins s σ H E I hf st hg
    subst hP hw hK
    obtain ⟨xs, hq, hx⟩ := hg
    obtain ⟨its, rv, p, hz⟩ := I.list hq
    obtain ⟨f0, f1, f2, f3, f4, f5⟩ := hf it (by simp)
    have hl := rv.length
    exact wpAny_pyNext_list_end (I.ok.hd hc) st p.isList (by simp; lia) fun h' eb => ⟨rfl, I.turned (t' := s.toks) (fun b o hb e => eb b o hb e) f0 f1 f3 f4 f5⟩
  self := fun _ _ _ _ _ st h => wpAny_pyIter_listiter st h
theorem turn_tuple {P : Program} {w : World} {K : PySem.W.Frag} {tg : Expr} (a it : Addr) : Turn P w K tg (Itt K a) [it] it (fun i h => h.IsTupleIter it a i) where
  mem := by simp
  obj := fun i h st b hb => by
    have e : b = it := by simpa using hb
    subst e
    obtain ⟨o, e, c, d⟩ := st
    exact ⟨o, e, fun v z => by rw [d] at z; cases z⟩
  keep := fun i h h' st k => st.at fun o e => k it (by simp) o e
  item := by
    intro X hP hw hK hc i pins s σ H E I hf st hg
    subst hP hw hK
    obtain ⟨xs, x, hq, hx⟩ := hg
    obtain ⟨its, rv, p, hz⟩ := I.tuple hq
    obtain ⟨u, hu, ru⟩ := rv.get hx
    obtain ⟨f0, f1, f2, f3, f4, f5⟩ := hf it (by simp)
    refine wpAny_pyNext_tuple_item st (show s.heap.IsTuple a its.toArray from p) (x := u) (by simpa using hu) fun h' st' sb => ?_
    have I1 : Inv X pins σ H { s with heap := h' } := I.turned (t' := s.toks) (fun b o hb e => (sb.2 b hb).trans e) f0 f1 f3 f4 f5
    obtain ⟨o, e, c, d⟩ := id st'
    exact ⟨u, rfl, go_of (s := { s with heap := h' }) e c d (by decide) ⟨x, H, I1, ru, ⟨rfl, fun ys hy => by rw [I.tuple_inj hy hq]; exact hx⟩, st', fun b hb => (hf b hb).1⟩⟩
  done := by
    intro X hP hw hK hc i pins s σ H E I hf st hg
    subst hP hw hK
    obtain ⟨xs, hq, hx⟩ := hg
    obtain ⟨its, rv, p, hz⟩ := I.tuple hq
    obtain ⟨f0, f1, f2, f3, f4, f5⟩ := hf it (by simp)
    have hl := rv.length
    exact wpAny_pyNext_tuple_end (I.ok.hd hc) st (show s.heap.IsTuple a its.toArray from p) (by simp; lia) fun h' eb => ⟨rfl, I.turned (t' := s.toks) (fun b o hb e => eb b o hb e) f0 f1 f3 f4 f5⟩
  self := fun _ _ _ _ _ st h => wpAny_pyIter_tupleiter st h
theorem turn_range {P : Program} {w : World} {K : PySem.W.Frag} {tg : Expr} (it : Addr) (lo : Int) (n : Nat) : Turn P w K tg (Itr lo n) [it] it (fun i h => IsRangeIter h it (lo + (i : Nat) * 1) ((n : Int) - (i : Nat)) 1) where
  mem := by simp
  obj := fun i h st b hb => by
    have e : b = it := by simpa using hb
    subst e
    exact ⟨_, st, fun v z => by
      have z' : Data.fields _ = Data.cell v := z
      cases z'⟩
  keep := fun i h h' st k => k it (by simp) _ st
  item := by
    intro X hP hw hK hc i pins s σ H E I hf st hg
    subst hP hw hK
    obtain ⟨f0, f1, f2, f3, f4, f5⟩ := hf it (by simp)
    have W := Walks.range (prog := X.prog) (w := X.w) (I.ok.hd hc) it lo 1 n
    refine W.item i s _ _ hg st fun v h' tk hv st' kk => ?_
    obtain ⟨t, rfl⟩ := hv
    have I1 : Inv X pins σ H { s with heap := h', toks := tk } := I.turned (fun b o hb e => kk b o (by simpa using hb) e) f0 f1 f3 f4 f5
    refine ⟨_, rfl, go_of (s := { s with heap := h', toks := tk }) (n := "range_iterator") st' rfl rfl (by decide) ⟨.int (lo + i), H, I1, ⟨t, ?_⟩, ⟨rfl, rfl⟩, st', fun b hb => (hf b hb).1⟩⟩
    rw [Int.mul_one]
  done := by
    intro X hP hw hK hc i pins s σ H E I hf st hg
    subst hP hw hK
    obtain ⟨f0, f1, f2, f3, f4, f5⟩ := hf it (by simp)
    exact wpAny_pyNext_range_end (I.ok.hd hc) st (by have : n <= i := hg; lia) fun h' eb => ⟨rfl, I.turned (t' := s.toks) (fun b o hb e => eb b o hb e) f0 f1 f3 f4 f5⟩
  self := fun _ _ _ _ _ st h => wpAny_pyIter_rangeiter st h
section
variable {X : Cx} {tg : Expr}
def iList (K : PySem.W.Frag) (tl : TE) : TI := fun σ H R => tl σ H fun x H1 => ∃ a, x = .ref a /\ (∃ xs, SqL K H1 a xs) /\ R (Itl K a) H1
def iTup (K : PySem.W.Frag) (tl : TE) : TI := fun σ H R => tl σ H fun x H1 => ∃ a, x = .ref a /\ (∃ xs, SqT K H1 a xs) /\ R (Itt K a) H1
theorem pi_list {l : Expr} {tl : TE} (hl : PE X l tl) : PI X tg l (iList X.K tl) := by
  intro pins s σ H R I h
  refine thn (hl pins s σ H _ I h) fun v s1 ⟨x, H1, I1, r1, q1⟩ => ?_
  obtain ⟨a, e, ⟨xs, hq⟩, q⟩ := q1
  subst e
  cases r1
  obtain ⟨its, rv, p, hz⟩ := I1.list hq
  refine wpAny_pyIter_list p.isList ?_
  refine ⟨s1.heap.objs.size, [s1.heap.objs.size], _, _, H1, rfl, I1.kept (t' := s1.toks) fun b o e => Heap.get?_push_of_some _ e, turn_list a _, ⟨_, Heap.get?_push_size _ rfl, rfl, rfl⟩, fun b hb => ?_, q⟩
  have e : b = s1.heap.objs.size := by simpa using hb
  subst e
  exact I1.fpOk (Nat.le_refl _) (I1.hok.fresh (Nat.le_refl _))
theorem pi_tup {l : Expr} {tl : TE} (hl : PE X l tl) : PI X tg l (iTup X.K tl) := by
  intro pins s σ H R I h
  refine thn (hl pins s σ H _ I h) fun v s1 ⟨x, H1, I1, r1, q1⟩ => ?_
  obtain ⟨a, e, ⟨xs, hq⟩, q⟩ := q1
  subst e
  cases r1
  obtain ⟨its, rv, p, hz⟩ := I1.tuple hq
  refine wpAny_pyIter_tuple (show s1.heap.IsTuple a its.toArray from p) ?_
  refine ⟨s1.heap.objs.size, [s1.heap.objs.size], _, _, H1, rfl, I1.kept (t' := s1.toks) fun b o e => Heap.get?_push_of_some _ e, turn_tuple a _, ⟨_, Heap.get?_push_size _ rfl, rfl, rfl⟩, fun b hb => ?_, q⟩
  have e : b = s1.heap.objs.size := by simpa using hb
  subst e
  exact I1.fpOk (Nat.le_refl _) (I1.hok.fresh (Nat.le_refl _))
theorem range_it {pins : List (Addr × Obj)} {σ : St} {H : Hp} {s : Shared} {R : It -> Hp -> Prop} {E : Value -> Shared -> Prop} {lo hi : Int} {t u v : Tok} {tk : Nat} (I : Inv X pins σ H s) (h1 : -(2 ^ 62) <= lo) (h2 : lo < 2 ^ 62) (h3 : -(2 ^ 62) <= hi) (h4 : hi < 2 ^ 62)
    (q : R (Itr lo (hi - lo).toNat) H) : wpAny (model X.prog X.w) X.A (pyIter (.ref s.heap.objs.size)) (PIE X pins σ tg R) E { s with heap := s.heap.push { cls := .type "range", data := .fields #[.int lo t, .int hi u, .int 1 v] }, toks := tk } := by
  refine wpAny_pyIter_range (IsRange.new ..) (small_one h1 h2 h3 h4) ?_
  have I1 : Inv X pins σ H { s with heap := s.heap.push { cls := .type "range", data := .fields #[.int lo t, .int hi u, .int 1 v] }, toks := tk } := I.kept fun b o e => Heap.get?_push_of_some _ e
  refine ⟨(s.heap.push { cls := .type "range", data := .fields #[.int lo t, .int hi u, .int 1 v] }).objs.size, [(s.heap.push { cls := .type "range", data := .fields #[.int lo t, .int hi u, .int 1 v] }).objs.size], _, _, H, rfl,
    I1.kept (t' := tk) fun b o e => Heap.get?_push_of_some _ e, turn_range _ lo (hi - lo).toNat, ?_, fun b hb => ?_, q⟩
  · have e1 : lo + ((0 : Nat) : Int) * 1 = lo := by simp
    have e2 : (((hi - lo).toNat : Nat) : Int) - ((0 : Nat) : Int) = Builtin.Range.rangeSize lo hi 1 := by rw [rangeSize_one]; split <;> lia
    show IsRangeIter _ _ (lo + ((0 : Nat) : Int) * 1) ((((hi - lo).toNat : Nat) : Int) - ((0 : Nat) : Int)) 1
    rw [e1, e2]
    exact Heap.get?_push_size _ rfl
  · have e : b = (s.heap.push { cls := .type "range", data := .fields #[.int lo t, .int hi u, .int 1 v] }).objs.size := by simpa using hb
    subst e
    exact I1.fpOk (Nat.le_refl _) (I1.hok.fresh (Nat.le_refl _))
def iRng1 (ta : TA) : TI := fun σ H R => ta σ H fun vs H1 => ∃ j : Int, vs = [.int j] /\ -(2 ^ 62) <= j /\ j < 2 ^ 62 /\ R (Itr 0 j.toNat) H1
theorem pi_range1 {a : Expr} {ta : TA} {p pos : Pos} (hg : Gl X "range") (hm : X.mg "range" = none) (ha : PA X [a] ta) (hs : starEach [a] X.env = [(false, eval a X.env)] := by rfl) : PI X tg (.Call (.Name "range" p) [a] [] pos) (iRng1 ta) := by
  intro pins s σ H R I h
  refine Call_ (ld_blt I hg hm boot_range (PyProof.Rows.callWith_type1 (thn (ha pos pins s σ H _ I h) fun us s1 ⟨vs, H1, I1, r1, q1⟩ => ?_) hs rfl))
  obtain ⟨j, e, q1, q2, q⟩ := q1
  subst e
  cases r1 with
  | cons r rr =>
    cases rr
    obtain ⟨t, rfl⟩ := r
    exact call_range_1 (range_it I1 (by lia) (by lia) q1 q2 (by simpa using q))
def tFor (wi : TI) (g : TG) (tb : TS) : TS := fun D σ H => wi σ H fun J H1 => ∃ W : Nat -> Nat -> St -> Hp -> Prop, (∃ m, W 0 m σ H1) /\ ∀ i m σ H, W i m σ H ->
  (J.stop i H /\ D.nx σ H) \/ (J.go i H /\ ∃ N : St -> Hp -> Prop, (∀ σ' H', N σ' H' -> ∃ m', m' < m /\ W (i + 1) m' σ' H') /\ ∀ x H', J.yld i H x H' -> g x σ H' fun σ2 H2 => tb { D with nx := N, ct := N, bk := D.nx } σ2 H2)
def pinsAt (fp : List Addr) (h : Heap) : List (Addr × Obj) := fp.filterMap fun b => (h.get? b).map fun o => (b, o)
theorem mem_pinsAt {fp : List Addr} {h : Heap} {b : Addr} {o : Obj} (hb : b ∈ fp) (e : h.get? b = some o) : (b, o) ∈ pinsAt fp h := List.mem_filterMap.mpr ⟨b, hb, by rw [e]; rfl⟩
theorem of_pinsAt {fp : List Addr} {h : Heap} {p : Addr × Obj} (hp : p ∈ pinsAt fp h) : p.1 ∈ fp /\ h.get? p.1 = some p.2 := by
  obtain ⟨b, hb, e⟩ := List.mem_filterMap.mp hp
  cases q : h.get? b with
  | none => rw [q] at e; cases e
  | some o =>
    rw [q] at e
    have e' : (b, o) = p := Option.some.inj e
    subst e'
    exact ⟨hb, q⟩
theorem Inv.pinned {pins : List (Addr × Obj)} {σ : St} {H : Hp} {s : Shared} {fp : List Addr} (I : Inv X pins σ H s) (hf : ∀ b ∈ fp, FpOk X pins H b) (ho : ∀ b ∈ fp, ∃ o, s.heap.get? b = some o /\ ∀ v, o.data ≠ .cell v) : Inv X (pins ++ pinsAt fp s.heap) σ H s :=
  I.pins_of fun p hp => (List.mem_append.mp hp).elim (fun z => I.pin p (List.mem_append_right _ z)) fun z => by
    obtain ⟨hb, e⟩ := of_pinsAt z
    obtain ⟨f0, f1, f2, _⟩ := hf p.1 hb
    obtain ⟨o, e', d⟩ := ho p.1 hb
    rw [e] at e'; cases e'
    exact ⟨e, f0, f1, f2, d⟩
theorem Inv.unpinned {pins pl : List (Addr × Obj)} {σ : St} {H : Hp} {s : Shared} (I : Inv X (pins ++ pl) σ H s) : Inv X pins σ H s := I.pins_of fun p hp => I.pin p (List.mem_append_right _ (List.mem_append_left _ hp))
theorem ps_for {iter : Expr} {body : List Stmt} {wi : TI} {g : TG} {tb : TS} {pos : Pos} (hp : PassesOwn (model X.prog X.w) X.A X.env X.xe) (hc : X.calm = true) (hi : PI X tg iter wi) (hg : PG X tg g) (hb : PSs X body tb)
    (hs : ∀ x, foldedSetIterable iter X.env x = pure x := by intro _; rfl) : PS X (.For tg iter body [] pos) (tFor wi g tb) := by
  intro pins s σ H D I h
  refine wpAny_For (thn (hi pins s σ H _ I h) fun v s1 h1 => thn h1 fun itv s2 h2 => ?_) hs
  obtain ⟨it, fp, tn, J, H2, e, I2, T, st2, f2, W, ⟨m0, w0⟩, turn⟩ := h2
  subst e
  have stat : ∀ {H' : Hp}, (∀ b ∈ fp, H' b = none) -> ∀ b ∈ fp, FpOk X pins H' b := fun hn b hb => ⟨hn b hb, (f2 b hb).2⟩
  refine codeAny_forLoop_any (fun n s' => ∃ i σ' H', Inv X pins σ' H' s' /\ tn i s'.heap /\ (∀ b ∈ fp, H' b = none) /\ W i n σ' H') ?_ m0 ⟨0, σ, H2, I2, st2, fun b hb => (f2 b hb).1, w0⟩
  rintro n s3 ⟨i, σ3, H3, I3, st3, fr3, w3⟩
  rcases turn i n σ3 H3 w3 with ⟨stop, qn⟩ | ⟨go, N, hN, step⟩
  · refine wpAny_passesOwn hp (thn (T.done X rfl rfl rfl hc i pins s3 σ3 H3 X.xe I3 (stat fr3) st3 stop) fun r s4 ⟨hr, I4⟩ => ?_)
    subst hr
    exact wpAny_execs_nil ⟨σ3, H3, I4, qn⟩
  · refine wpAny_passesOwn hp (thn (T.item X rfl rfl rfl hc i pins s3 σ3 H3 X.xe I3 (stat fr3) st3 go) fun r s4 ⟨u, hr, h4⟩ => ?_)
    subst hr
    refine wpAny_passesOwn hp (thn h4 fun _ s5 ⟨x, H5, I5, r5, y5, st5, fr5⟩ => ?_)
    have I5' := I5.pinned (stat fr5) (T.obj _ _ st5)
    refine wpAny_passesOwn hp (thn (hg _ s5 σ3 H5 x u _ I5' r5 (step x H5 y5)) fun _ s6 ⟨σ6, H6, I6, q6⟩ => ?_)
    refine wpAny_passesOwn hp (thn (hb _ s6 σ6 H6 _ I6 q6) fun f s7 q7 => ?_)
    have again : ∀ {σ7 : St} {H7 : Hp}, Inv X (pins ++ pinsAt fp s5.heap) σ7 H7 s7 -> N σ7 H7 -> ∃ m, m < n /\ ∃ i σ' H', Inv X pins σ' H' s7 /\ tn i s7.heap /\ (∀ b ∈ fp, H' b = none) /\ W i m σ' H' := fun {σ7 H7} I7 n7 => by
      obtain ⟨m', hm, w7⟩ := hN σ7 H7 n7
      refine ⟨m', hm, i + 1, σ7, H7, I7.unpinned, T.keep _ _ _ st5 fun b hb o e => (I7.pin (b, o) (List.mem_append_right _ (List.mem_append_right _ (mem_pinsAt hb e)))).1, fun b hb => ?_, w7⟩
      obtain ⟨o, e, d⟩ := T.obj _ _ st5 b hb
      exact (I7.pin (b, o) (List.mem_append_right _ (List.mem_append_right _ (mem_pinsAt hb e)))).2.1
    cases f with
    | next => obtain ⟨σ7, H7, I7, n7⟩ := q7; exact again I7 n7
    | cont => obtain ⟨σ7, H7, I7, n7⟩ := q7; exact again I7 n7
    | brk => obtain ⟨σ7, H7, I7, q7⟩ := q7; exact ⟨σ7, H7, I7.unpinned, q7⟩
    | ret v => obtain ⟨x7, σ7, H7, I7, r7, q7⟩ := q7; exact ⟨x7, σ7, H7, I7.unpinned, r7, q7⟩
end
theorem for_list {K : PySem.W.Frag} {a : Addr} {xs : List V} {g : TG} {tb : TS} {D : Ends} {σ : St} {H : Hp} (Pv : Nat -> St -> Hp -> Prop) (h0 : Pv 0 σ H) (hl : ∀ i σ H, i <= xs.length -> Pv i σ H -> SqL K H a xs)
    (hs : ∀ i x σ H, xs[i]? = some x -> Pv i σ H -> g x σ H fun σ2 H2 => tb { D with nx := Pv (i + 1), ct := Pv (i + 1), bk := D.nx } σ2 H2) (hd : ∀ σ H, Pv xs.length σ H -> D.nx σ H) :
    ∃ W : Nat -> Nat -> St -> Hp -> Prop, (∃ m, W 0 m σ H) /\ ∀ i m σ H, W i m σ H ->
      ((Itl K a).stop i H /\ D.nx σ H) \/ ((Itl K a).go i H /\ ∃ N : St -> Hp -> Prop, (∀ σ' H', N σ' H' -> ∃ m', m' < m /\ W (i + 1) m' σ' H') /\ ∀ x H', (Itl K a).yld i H x H' -> g x σ H' fun σ2 H2 => tb { D with nx := N, ct := N, bk := D.nx } σ2 H2) := by
  refine ⟨fun i m σ H => m = xs.length - i /\ i <= xs.length /\ Pv i σ H, ⟨xs.length, by simp, Nat.zero_le _, h0⟩, ?_⟩
  rintro i m σ H ⟨rfl, hi, p⟩
  have q := hl i σ H hi p
  by_cases hlt : i < xs.length
  · refine .inr ⟨⟨xs, xs[i], q, by simp [hlt]⟩, Pv (i + 1), fun σ' H' p' => ⟨xs.length - (i + 1), by lia, rfl, hlt, p'⟩, fun x H' y => ?_⟩
    obtain ⟨e, y⟩ := y
    subst e
    exact hs i x σ _ (y xs q) p
  · have e : i = xs.length := by lia
    subst e
    exact .inl ⟨⟨xs, q, Nat.le_refl _⟩, hd σ H p⟩
theorem for_tup {K : PySem.W.Frag} {a : Addr} {xs : List V} {g : TG} {tb : TS} {D : Ends} {σ : St} {H : Hp} (Pv : Nat -> St -> Hp -> Prop) (h0 : Pv 0 σ H) (hl : ∀ i σ H, i <= xs.length -> Pv i σ H -> SqT K H a xs)
    (hs : ∀ i x σ H, xs[i]? = some x -> Pv i σ H -> g x σ H fun σ2 H2 => tb { D with nx := Pv (i + 1), ct := Pv (i + 1), bk := D.nx } σ2 H2) (hd : ∀ σ H, Pv xs.length σ H -> D.nx σ H) :
    ∃ W : Nat -> Nat -> St -> Hp -> Prop, (∃ m, W 0 m σ H) /\ ∀ i m σ H, W i m σ H ->
      ((Itt K a).stop i H /\ D.nx σ H) \/ ((Itt K a).go i H /\ ∃ N : St -> Hp -> Prop, (∀ σ' H', N σ' H' -> ∃ m', m' < m /\ W (i + 1) m' σ' H') /\ ∀ x H', (Itt K a).yld i H x H' -> g x σ H' fun σ2 H2 => tb { D with nx := N, ct := N, bk := D.nx } σ2 H2) := by
  refine ⟨fun i m σ H => m = xs.length - i /\ i <= xs.length /\ Pv i σ H, ⟨xs.length, by simp, Nat.zero_le _, h0⟩, ?_⟩
  rintro i m σ H ⟨rfl, hi, p⟩
  have q := hl i σ H hi p
  by_cases hlt : i < xs.length
  · refine .inr ⟨⟨xs, xs[i], q, by simp [hlt]⟩, Pv (i + 1), fun σ' H' p' => ⟨xs.length - (i + 1), by lia, rfl, hlt, p'⟩, fun x H' y => ?_⟩
    obtain ⟨e, y⟩ := y
    subst e
    exact hs i x σ _ (y xs q) p
  · have e : i = xs.length := by lia
    subst e
    exact .inl ⟨⟨xs, q, Nat.le_refl _⟩, hd σ H p⟩
theorem for_range {lo : Int} {n : Nat} {g : TG} {tb : TS} {D : Ends} {σ : St} {H : Hp} (Pv : Nat -> St -> Hp -> Prop) (h0 : Pv 0 σ H)
    (hs : ∀ i σ H, i < n -> Pv i σ H -> g (.int (lo + i)) σ H fun σ2 H2 => tb { D with nx := Pv (i + 1), ct := Pv (i + 1), bk := D.nx } σ2 H2) (hd : ∀ σ H, Pv n σ H -> D.nx σ H) :
    ∃ W : Nat -> Nat -> St -> Hp -> Prop, (∃ m, W 0 m σ H) /\ ∀ i m σ H, W i m σ H ->
      ((Itr lo n).stop i H /\ D.nx σ H) \/ ((Itr lo n).go i H /\ ∃ N : St -> Hp -> Prop, (∀ σ' H', N σ' H' -> ∃ m', m' < m /\ W (i + 1) m' σ' H') /\ ∀ x H', (Itr lo n).yld i H x H' -> g x σ H' fun σ2 H2 => tb { D with nx := N, ct := N, bk := D.nx } σ2 H2) := by
  refine ⟨fun i m σ H => m = n - i /\ i <= n /\ Pv i σ H, ⟨n, by simp, Nat.zero_le _, h0⟩, ?_⟩
  rintro i m σ H ⟨rfl, hi, p⟩
  by_cases hlt : i < n
  · refine .inr ⟨hlt, Pv (i + 1), fun σ' H' p' => ⟨n - (i + 1), by lia, rfl, hlt, p'⟩, fun x H' y => ?_⟩
    obtain ⟨e, y⟩ := y
    subst e y
    exact hs i σ _ hlt p
  · have e : i = n := by lia
    subst e
    exact .inl ⟨Nat.le_refl _, hd σ H p⟩
abbrev R2 := V -> V -> Hp -> VK -> Prop
def OpR (X : Cx) (f : Value -> Value -> Sem Value) (r : R2) : Prop :=
  ∀ (pins : List (Addr × Obj)) (s : Shared) (σ : St) (H : Hp) (x y : V) (v u : Value) (Q : VK), Inv X pins σ H s -> RelV x v -> RelV y u -> r x y H Q ->
    wpAny (model X.prog X.w) X.A (f v u) (EP X pins σ Q) X.xe s
def UnR (X : Cx) (f : Value -> Sem Value) (r : V -> Hp -> VK -> Prop) : Prop :=
  ∀ (pins : List (Addr × Obj)) (s : Shared) (σ : St) (H : Hp) (x : V) (v : Value) (Q : VK), Inv X pins σ H s -> RelV x v -> r x H Q ->
    wpAny (model X.prog X.w) X.A (f v) (EP X pins σ Q) X.xe s
def CallR (X : Cx) (f : Value) (r : List V -> Hp -> VK -> Prop) : Prop :=
  ∀ (pins : List (Addr × Obj)) (s : Shared) (σ : St) (H : Hp) (xs : List V) (us : List Value) (Q : VK), Inv X pins σ H s -> Vals xs us -> r xs H Q ->
    wpAny (model X.prog X.w) X.A (call f us) (EP X pins σ Q) X.xe s
def tOp (r : R2) (ta tb : TE) : TE := fun σ H Q => ta σ H fun x H1 => tb σ H1 fun y H2 => r x y H2 Q
def tUn (r : V -> Hp -> VK -> Prop) (ta : TE) : TE := fun σ H Q => ta σ H fun x H1 => r x H1 Q
def rI (C : Int -> Int -> Prop) (g : Int -> Int -> V) : R2 := fun x y H Q => ∃ i j, x = .int i /\ y = .int j /\ C i j /\ Q (g i j) H
def rI0 (g : Int -> Int -> V) : R2 := fun x y H Q => ∃ i j, x = .int i /\ y = .int j /\ Q (g i j) H
def rU (g : Int -> V) : V -> Hp -> VK -> Prop := fun x H Q => ∃ i, x = .int i /\ Q (g i) H
section
variable {X : Cx} {a b c : Expr} {ta tb tc : TE} {pos : Pos}
theorem binT (ha : PE X a ta) (hb : PE X b tb) {pins : List (Addr × Obj)} {s : Shared} {σ : St} {H : Hp} {R : V -> V -> Hp -> Prop} (I : Inv X pins σ H s)
    (h : ta σ H fun x H1 => tb σ H1 fun y H2 => R x y H2) {Q : Value -> Shared -> Prop} {f : Value -> Value -> Sem Value}
    (hf : ∀ v u s2 x y H2, Inv X pins σ H2 s2 -> RelV x v -> RelV y u -> R x y H2 -> wpAny (model X.prog X.w) X.A (f v u) Q X.xe s2) :
    wpAny (model X.prog X.w) X.A (eval a X.env) (fun v s₁ => wpAny (model X.prog X.w) X.A (eval b X.env) (fun u s₂ => wpAny (model X.prog X.w) X.A (f v u) Q X.xe s₂) X.xe s₁) X.xe s := by
  refine thn (ha pins s σ H _ I h) fun v s1 ⟨x, H1, I1, r1, q1⟩ => ?_
  refine thn (hb pins s1 σ H1 _ I1 q1) fun u s2 ⟨y, H2, I2, r2, q2⟩ => ?_
  exact hf v u s2 x y H2 I2 r1 r2 q2
theorem pe_op {op : Operator} {r : R2} (ho : OpR X (binaryOp op) r) (ha : PE X a ta) (hb : PE X b tb) : PE X (.BinOp a op b pos) (tOp r ta tb) := by
  intro pins s σ H Q I h
  exact wpAny_BinOp (binT ha hb I h fun v u s2 x y H2 I2 rx ry q => ho pins s2 σ H2 x y v u Q I2 rx ry q)
theorem pe_un {op : UnaryOp} {r : V -> Hp -> VK -> Prop} (ho : UnR X (unaryOp op) r) (ha : PE X a ta) : PE X (.UnaryOp op a pos) (tUn r ta) := by
  intro pins s σ H Q I h
  exact UnaryOp_ (thn (ha pins s σ H _ I h) fun v s1 ⟨x, H1, I1, r1, q1⟩ => ho pins s1 σ H1 x v Q I1 r1 q1)
theorem opI {f : Value -> Value -> Sem Value} {C : Int -> Int -> Prop} {g : Int -> Int -> Int}
    (rule : ∀ (i j : Int) (t u : Tok) (s : Shared) (Q : Value -> Shared -> Prop) (E : Value -> Shared -> Prop), C i j -> Q (.int (g i j) s.toks) { s with toks := s.toks + 1 } -> wpAny (model X.prog X.w) X.A (f (.int i t) (.int j u)) Q E s) :
    OpR X f (rI C fun i j => .int (g i j)) := by
  intro pins s σ H x y v u Q I rx ry h
  obtain ⟨i, j, rfl, rfl, hc, q⟩ := h
  obtain ⟨t, rfl⟩ := rx
  obtain ⟨t', rfl⟩ := ry
  exact rule i j t t' s _ _ hc ⟨.int (g i j), H, I.tok _, ⟨_, rfl⟩, q⟩
theorem opI0 {f : Value -> Value -> Sem Value} {g : Int -> Int -> Int}
    (rule : ∀ (i j : Int) (t u : Tok) (s : Shared) (Q : Value -> Shared -> Prop) (E : Value -> Shared -> Prop), Q (.int (g i j) s.toks) { s with toks := s.toks + 1 } -> wpAny (model X.prog X.w) X.A (f (.int i t) (.int j u)) Q E s) :
    OpR X f (rI0 fun i j => .int (g i j)) := by
  intro pins s σ H x y v u Q I rx ry h
  obtain ⟨i, j, rfl, rfl, q⟩ := h
  obtain ⟨t, rfl⟩ := rx
  obtain ⟨t', rfl⟩ := ry
  exact rule i j t t' s _ _ ⟨.int (g i j), H, I.tok _, ⟨_, rfl⟩, q⟩
theorem opB0 {f : Value -> Value -> Sem Value} {g : Int -> Int -> Bool}
    (rule : ∀ (i j : Int) (t u : Tok) (s : Shared) (Q : Value -> Shared -> Prop) (E : Value -> Shared -> Prop), Q (.bool (g i j)) s -> wpAny (model X.prog X.w) X.A (f (.int i t) (.int j u)) Q E s) :
    OpR X f (rI0 fun i j => .bl (g i j)) := by
  intro pins s σ H x y v u Q I rx ry h
  obtain ⟨i, j, rfl, rfl, q⟩ := h
  obtain ⟨t, rfl⟩ := rx
  obtain ⟨t', rfl⟩ := ry
  exact rule i j t t' s _ _ ⟨.bl (g i j), H, I, rfl, q⟩
def CDiv (i j : Int) : Prop := 0 < j /\ j < 1073741824
def CPow (i j : Int) : Prop := 0 <= j /\ j <= 1000000 /\ i.natAbs < 2 ^ 64
theorem two_pow_nn (k : Nat) : (0 : Int) <= 2 ^ k := by
  rw [two_pow_cast]
  exact Int.natCast_nonneg _
theorem op_add : OpR X (binaryOp .Add) (rI0 fun i j => .int (i + j)) := opI0 fun _ _ _ _ _ _ _ q => add_int q
theorem op_sub : OpR X (binaryOp .Sub) (rI0 fun i j => .int (i - j)) := opI0 fun _ _ _ _ _ _ _ q => sub_int q
theorem op_fdiv : OpR X (binaryOp .FloorDiv) (rI CDiv fun i j => .int (i / j)) := opI fun i j _ _ _ _ _ hc q => by
  have h1 : (0 : Int) < j := hc.1
  have h2 : j < 1073741824 := hc.2
  exact floordiv_int (by lia) (by rw [Int.fdiv_eq_ediv_of_nonneg i (by lia)]; exact q) (.inl (PyProof.noPylong_small (by lia)))
theorem op_mod : OpR X (binaryOp .Mod) (rI (fun _ j => 0 < j) fun i j => .int (i % j)) := opI fun i j _ _ _ _ _ hc q => by
  have h1 : (0 : Int) < j := hc
  exact mod_int' (by lia) (by rw [Int.fmod_eq_emod_of_nonneg i (by lia)]; exact q)
theorem op_pow : OpR X (binaryOp .Pow) (rI CPow fun i j => .int (i ^ j.toNat)) := opI fun _ _ _ _ _ _ _ hc q => pow_int_small hc.1 hc.2.1 hc.2.2 q
theorem op_shl : OpR X (binaryOp .LShift) (rI CPow fun i j => .int (i * 2 ^ j.toNat)) := opI fun _ _ _ _ _ _ _ hc q => lshift_int_small hc.1 hc.2.1 hc.2.2 q
theorem op_shr : OpR X (binaryOp .RShift) (rI (fun _ j => 0 <= j) fun i j => .int (i / 2 ^ j.toNat)) := opI fun i j _ _ _ _ _ hc q =>
  rshift_int hc (by rw [Int.fdiv_eq_ediv_of_nonneg i (two_pow_nn _)]; exact q)
theorem op_and : OpR X (binaryOp .BitAnd) (rI0 fun i j => .int (Builtin.bitAnd i j)) := opI0 fun _ _ _ _ _ _ _ q => and_int q
theorem unI {f : Value -> Sem Value} {g : Int -> Int}
    (rule : ∀ (i : Int) (t : Tok) (s : Shared) (Q : Value -> Shared -> Prop) (E : Value -> Shared -> Prop), Q (.int (g i) s.toks) { s with toks := s.toks + 1 } -> wpAny (model X.prog X.w) X.A (f (.int i t)) Q E s) :
    UnR X f (rU fun i => .int (g i)) := by
  intro pins s σ H x v Q I rx h
  obtain ⟨i, rfl, q⟩ := h
  obtain ⟨t, rfl⟩ := rx
  exact rule i t s _ _ ⟨.int (g i), H, I.tok _, ⟨_, rfl⟩, q⟩
theorem un_neg : UnR X (unaryOp .USub) (rU fun i => .int (-i)) := unI fun _ _ _ _ _ q => neg_int q
end
def scal : V -> V -> Bool
  | .non, .non => true | .non, .int _ => true | .int _, .non => true | .non, .bl _ => true | .bl _, .non => true | .non, .str _ => true | .str _, .non => true
  | .int _, .int _ => true | .bl _, .bl _ => true | .str _, .str _ => true | .byt _, .byt _ => true
  | .int _, .str _ => true | .str _, .int _ => true | .bl _, .str _ => true | .str _, .bl _ => true
  | _, _ => false
def rEq : R2 := fun x y H Q => scal x y = true /\ Q (.bl (decide (x = y))) H
def rNe : R2 := fun x y H Q => scal x y = true /\ Q (.bl (!decide (x = y))) H
theorem dec_int {i j : Int} : decide (V.int i = V.int j) = (i == j) := by
  rw [Bool.eq_iff_iff]
  simp
theorem dec_bl {i j : Bool} : decide (V.bl i = V.bl j) = (i == j) := by
  rw [Bool.eq_iff_iff]
  simp
theorem dec_str {i j : Str} : decide (V.str i = V.str j) = (i == j) := by
  rw [Bool.eq_iff_iff]
  simp
theorem dec_byt {i j : Array UInt8} : decide (V.byt i = V.byt j) = (i.toList == j.toList) := by
  rw [Bool.eq_iff_iff]
  cases i
  cases j
  simp
section
variable {X : Cx} {a b c : Expr} {ta tb tc : TE} {pos : Pos}
theorem fin_bl {pins : List (Addr × Obj)} {σ : St} {H : Hp} {s : Shared} {Q : VK} {k k' : Bool} (I : Inv X pins σ H s) (q : Q (.bl k) H) (e : k = k') : EP X pins σ Q (.bool k') s := by
  subst e
  exact ⟨.bl k, H, I, rfl, q⟩
theorem op_eq : OpR X (compareOp .Eq) rEq := by
  intro pins s σ H x y v u Q I rx ry h
  obtain ⟨hs, q⟩ := h
  cases x with
  | non =>
    cases rx
    cases y with
    | non => cases ry; exact PySem.EqNone.eq_none_none (fin_bl I q (by simp))
    | bl j => cases ry; exact PySem.EqNone.eq_none_bool (fin_bl I q (by simp))
    | int j => obtain ⟨t', rfl⟩ := ry; exact PySem.EqNone.eq_none_int (fin_bl I q (by simp))
    | str j => obtain ⟨t', rfl⟩ := ry; exact PySem.EqNone.eq_none_str (fin_bl I q (by simp))
    | _ => exact absurd (show false = true from hs) Bool.false_ne_true
  | bl i =>
    cases rx
    cases y with
    | non => cases ry; exact PySem.EqNone.eq_bool_none (fin_bl I q (by simp))
    | bl j => cases ry; exact eq_bool (fin_bl I q dec_bl)
    | str j => obtain ⟨t', rfl⟩ := ry; exact PySem.EqMixed.eq_bool_str (fin_bl I q (by simp))
    | _ => exact absurd (show false = true from hs) Bool.false_ne_true
  | int i =>
    obtain ⟨t, rfl⟩ := rx
    cases y with
    | non => cases ry; exact PySem.EqNone.eq_int_none (fin_bl I q (by simp))
    | int j => obtain ⟨t', rfl⟩ := ry; exact eq_int (fin_bl I q dec_int)
    | str j => obtain ⟨t', rfl⟩ := ry; exact PySem.EqMixed.eq_int_str (fin_bl I q (by simp))
    | _ => exact absurd (show false = true from hs) Bool.false_ne_true
  | str i =>
    obtain ⟨t, rfl⟩ := rx
    cases y with
    | non => cases ry; exact PySem.EqNone.eq_str_none (fin_bl I q (by simp))
    | bl j => cases ry; exact PySem.EqMixed.eq_str_bool (fin_bl I q (by simp))
    | int j => obtain ⟨t', rfl⟩ := ry; exact PySem.EqMixed.eq_str_int (fin_bl I q (by simp))
    | str j => obtain ⟨t', rfl⟩ := ry; exact eq_str (fin_bl I q dec_str)
    | _ => exact absurd (show false = true from hs) Bool.false_ne_true
  | byt i =>
    obtain ⟨t, rfl⟩ := rx
    cases y with
    | byt j => obtain ⟨t', rfl⟩ := ry; exact PySem.W.eq_bytes (fin_bl I q dec_byt)
    | _ => exact absurd (show false = true from hs) Bool.false_ne_true
  | _ => cases y <;> exact absurd (show false = true from hs) Bool.false_ne_true
theorem op_ne : OpR X (compareOp .NotEq) rNe := by
  intro pins s σ H x y v u Q I rx ry h
  obtain ⟨hs, q⟩ := h
  cases x with
  | non =>
    cases rx
    cases y with
    | non => cases ry; exact PySem.EqNone.ne_none_none (fin_bl I q (by simp))
    | bl j => cases ry; exact PySem.EqNone.ne_none_bool (fin_bl I q (by simp))
    | int j => obtain ⟨t', rfl⟩ := ry; exact PySem.EqNone.ne_none_int (fin_bl I q (by simp))
    | str j => obtain ⟨t', rfl⟩ := ry; exact PySem.EqNone.ne_none_str (fin_bl I q (by simp))
    | _ => exact absurd (show false = true from hs) Bool.false_ne_true
  | bl i =>
    cases rx
    cases y with
    | non => cases ry; exact PySem.EqNone.ne_bool_none (fin_bl I q (by simp))
    | bl j => cases ry; exact ne_bool (fin_bl I q (congrArg not dec_bl))
    | str j => obtain ⟨t', rfl⟩ := ry; exact PySem.EqMixed.ne_bool_str (fin_bl I q (by simp))
    | _ => exact absurd (show false = true from hs) Bool.false_ne_true
  | int i =>
    obtain ⟨t, rfl⟩ := rx
    cases y with
    | non => cases ry; exact PySem.EqNone.ne_int_none (fin_bl I q (by simp))
    | int j => obtain ⟨t', rfl⟩ := ry; exact ne_int (fin_bl I q (congrArg not dec_int))
    | str j => obtain ⟨t', rfl⟩ := ry; exact PySem.EqMixed.ne_int_str (fin_bl I q (by simp))
    | _ => exact absurd (show false = true from hs) Bool.false_ne_true
  | str i =>
    obtain ⟨t, rfl⟩ := rx
    cases y with
    | non => cases ry; exact PySem.EqNone.ne_str_none (fin_bl I q (by simp))
    | bl j => cases ry; exact PySem.EqMixed.ne_str_bool (fin_bl I q (by simp))
    | int j => obtain ⟨t', rfl⟩ := ry; exact PySem.EqMixed.ne_str_int (fin_bl I q (by simp))
    | str j => obtain ⟨t', rfl⟩ := ry; exact ne_str (fin_bl I q (congrArg not dec_str))
    | _ => exact absurd (show false = true from hs) Bool.false_ne_true
  | byt i =>
    obtain ⟨t, rfl⟩ := rx
    cases y with
    | byt j => obtain ⟨t', rfl⟩ := ry; exact PySem.W.ne_bytes (fin_bl I q (congrArg not dec_byt))
    | _ => exact absurd (show false = true from hs) Bool.false_ne_true
  | _ => cases y <;> exact absurd (show false = true from hs) Bool.false_ne_true
theorem op_lt : OpR X (compareOp .Lt) (rI0 fun i j => .bl (decide (i < j))) := opB0 fun _ _ _ _ _ _ _ q => lt_int q
theorem op_le : OpR X (compareOp .LtE) (rI0 fun i j => .bl (decide (i <= j))) := opB0 fun _ _ _ _ _ _ _ q => le_int q
theorem op_gt : OpR X (compareOp .Gt) (rI0 fun i j => .bl (decide (j < i))) := opB0 fun _ _ _ _ _ _ _ q => gt_int q
theorem op_isN : OpR X (compareOp .Is) (fun x y H Q => y = .non /\ Q (.bl (decide (x = .non))) H) := by
  intro pins s σ H x y v u Q I rx ry h
  obtain ⟨rfl, q⟩ := h
  cases ry
  refine is_none_gen (fin_bl I q ?_)
  cases x <;> first
    | (cases rx; rfl)
    | (obtain ⟨t, rfl⟩ := rx; rfl)
theorem nomark (b : Expr) {op : CmpOp} (h : op ≠ .In := by decide) (h2 : op ≠ .NotIn := by decide) : behindInMarks op b = false := by
  have e1 : (op == CmpOp.In) = false := by cases op <;> first | rfl | exact absurd rfl h
  have e2 : (op == CmpOp.NotIn) = false := by cases op <;> first | rfl | exact absurd rfl h2
  cases b <;> simp [behindInMarks, e1, e2]
theorem pe_cmpR {op : CmpOp} {r : R2} (ho : OpR X (compareOp op) r) (ha : PE X a ta) (hb : PE X b tb) (hm : behindInMarks op b = false) : PE X (.Compare a [op] [b] pos) (tOp r ta tb) := by
  intro pins s σ H Q I h
  exact wpAny_Compare1 (binT ha hb I h fun v u s2 x y H2 I2 rx ry q => ho pins s2 σ H2 x y v u Q I2 rx ry q) hm
def tTest (t : TE) : TT := fun σ H Q => t σ H fun x H' => ∃ k, x = .bl k /\ Q k H'
theorem pt_cmpR {op : CmpOp} {r : R2} (ho : OpR X (compareOp op) r) (ha : PE X a ta) (hb : PE X b tb) (hm : behindInMarks op b = false) : PT X (.Compare a [op] [b] pos) (tTest (tOp r ta tb)) := by
  intro pins s σ H Q I h
  refine wpAny_isTrue_Compare1 (thn (ha pins s σ H _ I h) fun v s1 ⟨x, H1, I1, r1, q1⟩ => thn (hb pins s1 σ H1 _ I1 q1) fun u s2 ⟨y, H2, I2, r2, q2⟩ =>
    thn (ho pins s2 σ H2 x y v u _ I2 r1 r2 q2) fun c s3 ⟨z, H3, I3, r3, k, e, q3⟩ => ?_) hm
  subst e
  cases r3
  exact wpAny_truthy_bool ⟨H3, I3, q3⟩
def tChain (r r' : R2) (ta tb tc : TE) : TE := fun σ H Q => ta σ H fun x H1 => tb σ H1 fun y H2 => r x y H2 fun z H3 => ∃ k, z = .bl k /\
  (if k = true then tc σ H3 fun w' H4 => r' y w' H4 Q else Q (.bl false) H3)
theorem pe_chain {op op' : CmpOp} {r r' : R2} (ho : OpR X (compareOp op) r) (ho' : OpR X (compareOp op') r') (ha : PE X a ta) (hb : PE X b tb) (hc : PE X c tc)
    (hm : lastMarks [op, op'] [b, c] = false := by with_unfolding_all rfl) : PE X (.Compare a [op, op'] [b, c] pos) (tChain r r' ta tb tc) := by
  intro pins s σ H Q I h
  refine Compare_chain (thn (ha pins s σ H _ I h) fun v s1 ⟨x, H1, I1, r1, q1⟩ => chain_link (thn (hb pins s1 σ H1 _ I1 q1) fun u s2 ⟨y, H2, I2, r2, q2⟩ =>
    thn (ho pins s2 σ H2 x y v u _ I2 r1 r2 q2) fun d s3 ⟨z, H3, I3, r3, k, e, q3⟩ => ?_)) hm
  subst e
  cases r3
  refine wpAny_truthy_bool ?_
  cases k with
  | false => exact ite_ff ⟨.bl false, H3, I3, rfl, q3⟩
  | true => exact ite_tt (chain_last (thn (hc pins s3 σ H3 _ I3 q3) fun w' s4 ⟨z', H4, I4, r4, q4⟩ => ho' pins s4 σ H4 y z' u w' Q I4 r2 r4 q4))
theorem line63 : (sizeLine : Nat) < 2 ^ 63 := by rw [sizeLine_eq]; decide
theorem vals1 {x : V} {us : List Value} (r : Vals [x] us) : ∃ u, us = [u] /\ RelV x u := by
  cases r with
  | cons r1 r2 => cases r2; exact ⟨_, rfl, r1⟩
theorem vals2 {x y : V} {us : List Value} (r : Vals [x, y] us) : ∃ u w', us = [u, w'] /\ RelV x u /\ RelV y w' := by
  cases r with
  | cons r1 r2 =>
    cases r2 with
    | cons r3 r4 => cases r4; exact ⟨_, _, rfl, r1, r3⟩
theorem call_max2 (hc : X.calm = true) : CallR X (.builtin "max") (fun xs H Q => ∃ i j, xs = [.int i, .int j] /\ Q (.int (if j > i then j else i)) H) := by
  intro pins s σ H xs us Q I r h
  obtain ⟨i, j, rfl, q⟩ := h
  obtain ⟨u, w', rfl, ⟨t, rfl⟩, ⟨t', rfl⟩⟩ := vals2 r
  refine max_two_ints (I.ok.hd hc) fun h' tk k => ⟨_, H, I.kept k, ?_, q⟩
  by_cases hj : j > i
  · rw [if_pos hj, if_pos hj]; exact ⟨_, rfl⟩
  · rw [if_neg hj, if_neg hj]; exact ⟨_, rfl⟩
theorem call_min2 (hc : X.calm = true) : CallR X (.builtin "min") (fun xs H Q => ∃ i j, xs = [.int i, .int j] /\ Q (.int (if j < i then j else i)) H) := by
  intro pins s σ H xs us Q I r h
  obtain ⟨i, j, rfl, q⟩ := h
  obtain ⟨u, w', rfl, ⟨t, rfl⟩, ⟨t', rfl⟩⟩ := vals2 r
  refine min_two_ints (I.ok.hd hc) fun h' tk k => ⟨_, H, I.kept k, ?_, q⟩
  by_cases hj : j < i
  · rw [if_pos hj, if_pos hj]; exact ⟨_, rfl⟩
  · rw [if_neg hj, if_neg hj]; exact ⟨_, rfl⟩
end
structure ObjM (h : Heap) (x dx C : Addr) (mA : Str -> Option Value) : Prop where
  obj : h.get? x = some (PySem.W.instObj C dx)
  ns : h.Ns1 dx mA
  ne : dx ≠ x
theorem lookIn_ns {h : Heap} {dx : Addr} {mA : Str -> Option Value} (n : h.Ns1 dx mA) : ∃ od, h.get? dx = some od /\ ∀ name, PySem.W.lookIn name od = some (mA name) := by
  obtain ⟨o, es, ep, ho, hd, hk, _, hm⟩ := n
  refine ⟨o, ho, fun name => ?_⟩
  have e := hm name
  unfold nsFind findBy at e
  rw [<- Array.find?_toList] at e
  unfold PySem.W.lookIn
  rw [hd]
  dsimp only
  split
  · rename_i y q
    rw [q] at e
    exact congrArg some e
  · rename_i q
    rw [q] at e
    have a : es.toList.any (·.refKey) = false := by
      rw [List.any_eq_false]
      intro y hy
      obtain ⟨z, t, hkey⟩ := hk y (Array.mem_toList_iff.mp hy)
      simp [DictEntry.refKey, hkey]
    have a' : ¬ es.toList.any (·.refKey) = true := by rw [a]; exact Bool.false_ne_true
    rw [if_neg a']
    exact congrArg some e
theorem ObjM.look {h : Heap} {x dx C : Addr} {mA : Str -> Option Value} (I : ObjM h x dx C mA) : ∃ od, PySem.W.InstAt h x (PySem.W.instObj C dx) C (some od) /\ ∀ name, PySem.W.lookIn name od = some (mA name) :=
  let ⟨od, ho, hl⟩ := lookIn_ns I.ns
  ⟨od, ⟨I.obj, rfl, rfl, ho⟩, hl⟩
section
variable {prog : Program} {w : World} {A : Around} {E : Value -> Shared -> Prop} {s : Shared} {K : PySem.W.Frag} {x dx C f : Addr} {mA : Str -> Option Value} {name : Str} {v : Value}
end
section
variable {P : Program} {w : World} {H H' : Hp} {h h' : Heap} {a C dx : Addr} {fs fs' : List (Str × V)}
theorem ins_get (hok : HOk P w H h) (e : H a = some (.ins C dx fs)) : ∃ mA, ObjM h a dx C mA /\ (∀ f, RelO (fs.lookup f) (mA f)) /\ PySem.Within mA (fs.map (·.1)) /\ fs.length <= 1000 /\ H dx = some (.own a) := by
  obtain ⟨d, z, ne, ob, mA, n, r, q⟩ := (show ObjOk P w H h a (.ins C dx fs) from hok a _ e)
  exact ⟨mA, ⟨ob, n, ne⟩, r, q, z, d⟩
end
structure Cls (K : PySem.W.Frag) (C : Addr) : Prop where
  pg : PySem.W.plainGet K C Str.empty = true
  hd : PySem.W.hasDictIn K C = true
  po : PySem.W.plainOver K C = true
  sa : PySem.W.findIn K (.ref C) "__setattr__" = some (some (.builtin "object.__setattr__"))
theorem Cls.get {K : PySem.W.Frag} {C : Addr} (c : Cls K C) (f : Str) : PySem.W.plainGet K C f = true := c.pg
section
variable {X : Cx} {pins : List (Addr × Obj)} {σ : St} {H : Hp} {s : Shared} {a C dx : Addr} {fs : List (Str × V)} {f : Str} {v : V} {A : Around} {E : Value -> Shared -> Prop}
end
section
variable {X : Cx} {o e value : Expr} {f : Str} {pos pos' tpos : Pos} {ta tv : TE}
end
section
variable {X : Cx} {pins : List (Addr × Obj)} {σ : St} {H : Hp} {s : Shared} {A : Around} {E : Value -> Shared -> Prop} {Q : Value -> Shared -> Prop} {c : Value} {b : Bool}
inductive TyOf (K : PySem.W.Frag) (H : Hp) : V -> Value -> Prop where
  | non : TyOf K H .non (.type "NoneType")
  | bl (x : Bool) : TyOf K H (.bl x) (.type "bool")
  | int (i : Int) : TyOf K H (.int i) (.type "int")
  | str (x : Str) : TyOf K H (.str x) (.type "str")
  | flt (x : UInt64) : TyOf K H (.flt x) (.type "float")
  | lst {a : Addr} {xs : List V} (e : H a = some (.lst xs)) : TyOf K H (.ref a) (.type "list")
  | frz {a : Addr} {o : Obj} {xs : List V} (e : H a = some (.frz o (.lst xs))) : TyOf K H (.ref a) (.type "list")
  | tup {a : Addr} {xs : List V} (e : H a = some (.tup xs)) : TyOf K H (.ref a) (.type "tuple")
  | dK {a : Addr} {kvs : List (Key × V)} (e : H a = some (.dK kvs)) : TyOf K H (.ref a) (.type "dict")
  | dT {a : Addr} {kvs : List (List Key × V)} (e : H a = some (.dT kvs)) : TyOf K H (.ref a) (.type "dict")
  | ins {a C dx : Addr} {fs : List (Str × V)} (e : H a = some (.ins C dx fs)) (cl : Cls K C) (ha : PySem.W.findIn K (.ref C) "__class__" = some (some (.builtin "object.__class__")))
      (hn : PySem.W.specialIn K (.builtin "object.__class__") "__get__" = some (some (.builtin "getset_descriptor.__get__"))) (htk : PySem.W.takesIn K (.builtin "object.__class__") = some true)
      (hm : PySem.W.mroIn K C (.type "object") = some true) : TyOf K H (.ref a) (.ref C)
theorem isinst_ok {x : V} {u t : Value} (I : Inv X pins σ H s) (rx : RelV x u) (ty : TyOf X.K H x t) (e : PySem.W.kitOne X.K t c = some b) (h : ∀ tk, Q (.bool b) { s with toks := tk }) :
    wpAny (model X.prog X.w) A (call (.builtin "isinstance") [u, c]) Q E s := by
  cases ty with
  | non => cases (show u = Value.none from rx); exact PySem.W.kia_one PySem.W.kitx_none I.kIn True.intro e (fun z => nomatch z) h
  | bl y => cases (show u = Value.bool y from rx); exact PySem.W.kia_one PySem.W.kitx_bool I.kIn True.intro e (fun z => nomatch z) h
  | int i => obtain ⟨t, q⟩ := (show ∃ t, u = Value.int i t from rx); cases q; exact PySem.W.kia_one PySem.W.kitx_int I.kIn True.intro e (fun z => nomatch z) h
  | str y => obtain ⟨t, q⟩ := (show ∃ t, u = Value.str y t from rx); cases q; exact PySem.W.kia_one PySem.W.kitx_str I.kIn True.intro e (fun z => nomatch z) h
  | flt y => obtain ⟨t, q⟩ := (show ∃ t, u = Value.float y t from rx); cases q; exact PySem.W.kia_one PySem.W.kitx_float I.kIn True.intro e (fun z => nomatch z) h
  | @lst a xs ea =>
    cases (show u = Value.ref a from rx)
    obtain ⟨_, _, n, _, h1⟩ := (show ObjOk X.prog X.w H s.heap a (.lst xs) from I.hok a _ ea)
    exact PySem.W.kia_one PySem.W.kitx_list I.kIn ⟨_, h1, rfl⟩ e (fun z => nomatch z) h
  | @frz a ob xs ea =>
    cases (show u = Value.ref a from rx)
    obtain ⟨_, _, _, n, _, h1⟩ := (show ObjOk X.prog X.w H s.heap a (.frz ob (.lst xs)) from I.hok a _ ea)
    exact PySem.W.kia_one PySem.W.kitx_list I.kIn ⟨_, h1, rfl⟩ e (fun z => nomatch z) h
  | @tup a xs ea =>
    cases (show u = Value.ref a from rx)
    obtain ⟨_, _, _, p⟩ := (show ObjOk X.prog X.w H s.heap a (.tup xs) from I.hok a _ ea)
    obtain ⟨o, h1, h2, _⟩ := p
    exact PySem.W.kia_one PySem.W.kitx_tuple I.kIn ⟨o, h1, h2⟩ e (fun z => nomatch z) h
  | @dK a kvs ea =>
    cases (show u = Value.ref a from rx)
    obtain ⟨_, _, vs, _, p⟩ := (show ObjOk X.prog X.w H s.heap a (.dK kvs) from I.hok a _ ea)
    obtain ⟨o, es, ep, h1, h2, _⟩ := p
    exact PySem.W.kia_one PySem.W.kitx_dict I.kIn ⟨o, h1, h2.1⟩ e (fun z => nomatch z) h
  | @dT a kvs ea =>
    cases (show u = Value.ref a from rx)
    obtain ⟨_, _, xs, _, o, es, ep, h1, h2, _⟩ := (show ObjOk X.prog X.w H s.heap a (.dT kvs) from I.hok a _ ea)
    exact PySem.W.kia_one PySem.W.kitx_dict I.kIn ⟨o, h1, h2.1⟩ e (fun z => nomatch z) h
  | @ins a C dx fs ea cl ha hn htk hm =>
    cases (show u = Value.ref a from rx)
    obtain ⟨mA, O, _⟩ := ins_get I.hok ea
    obtain ⟨od, J, _⟩ := O.look
    exact PySem.W.kia_one (PySem.W.kitx_own (cl.get _) cl.hd ha hn htk hm) I.kIn J e (fun z => nomatch z) h
end
structure Room (k : Nat) (A : Around) : Prop where
  hd : A.handled = none
  dp : A.depth + 3 * k + 5 < recursionLimit
  un : A.units + 16 * k + 200 < cLine
theorem Room.mono {j k : Nat} {A : Around} (r : Room k A) (h : j <= k) : Room j A := ⟨r.hd, by have := r.dp; lia, by have := r.un; lia⟩
theorem Room.deeper {k : Nat} {A : Around} (r : Room (k + 1) A) (env : Env) : Room k (A.deeper env) :=
  ⟨r.hd, by have := r.dp; show A.depth + 1 + 3 * k + 5 < _; lia, by have := r.un; show A.units + 3 + 16 * k + 200 < _; lia⟩
theorem Room.depth {k : Nat} {A : Around} (r : Room k A) : A.depth < recursionLimit := by have := r.dp; lia
def tNil : TA := fun _ H Q => Q [] H
def tCons (ta : TE) (tr : TA) : TA := fun σ H Q => ta σ H fun x H1 => tr σ H1 fun xs H2 => Q (x :: xs) H2
section
variable {X : Cx} {e : Expr} {es : List Expr} {te : TE} {t : TA} {pos : Pos}
theorem pa_nil : PA X [] tNil := fun _ _ _ _ H Q I h => Calls.spliced_nil ⟨[], H, I, .nil, h⟩
theorem pa_cons (ha : PE X e te) (hr : PA X es t) (hs : starEach (e :: es) X.env = (false, eval e X.env) :: starEach es X.env := by rfl) : PA X (e :: es) (tCons te t) := by
  intro pos pins s σ H Q I h
  rw [hs]
  show wpAny _ _ (spliced ((false, eval e X.env) :: backTo pos (starEach es X.env))) _ _ s
  refine Calls.spliced_cons (thn (ha pins s σ H _ I h) fun u s1 ⟨x, H1, I1, r1, q1⟩ => ?_)
  exact thn (hr pos pins s1 σ H1 _ I1 q1) fun us s2 ⟨xs, H2, I2, r2, q2⟩ => ⟨x :: xs, H2, I2, .cons r1 r2, q2⟩
def tTup (t : TA) : TE := fun σ H Q => t σ H fun xs H1 => xs.length <= sizeLine /\ ∀ p, H1 p = none -> Q (.ref p) (upd H1 p (.tup xs))
def tLst (t : TA) : TE := fun σ H Q => t σ H fun xs H1 => xs.length <= sizeLine /\ ∀ p, H1 p = none -> Q (.ref p) (upd H1 p (.lst xs))
theorem pe_tup {x1} (h : PA X es t) : PE X (.Tuple es x1 pos) (tTup t) := by
  intro pins s σ H Q I hq
  refine wpAny_Tuple_spliced (thn (h pos pins s σ H _ I hq) fun us s1 ⟨xs, H1, I1, r, z, q⟩ => ⟨by rw [<- r.length]; exact z, ?_⟩)
  have hf : H1 s1.heap.objs.size = none := I1.hok.fresh (Nat.le_refl _)
  refine ⟨.ref s1.heap.objs.size, upd H1 s1.heap.objs.size (.tup xs), I1.laid (t' := s1.toks) (fun b u e => Heap.get?_push_of_some _ e) (Nat.le_refl _) ?_, rfl, q _ hf⟩
  exact ⟨z, us, r, ⟨_, Heap.get?_push_size _ rfl, rfl, _, rfl⟩⟩
theorem pe_lst (h : PA X es t) : PE X (.List es pos) (tLst t) := by
  intro pins s σ H Q I hq
  refine wpAny_List_spliced (thn (h pos pins s σ H _ I hq) fun us s1 ⟨xs, H1, I1, r, z, q⟩ => ⟨by rw [<- r.length]; exact z, ?_⟩)
  have hf : H1 s1.heap.objs.size = none := I1.hok.fresh (Nat.le_refl _)
  refine ⟨.ref s1.heap.objs.size, upd H1 s1.heap.objs.size (.lst xs), I1.laid (t' := s1.toks) (fun b u e => Heap.get?_push_of_some _ e) (Nat.le_refl _) ?_, rfl, q _ hf⟩
  exact ⟨z, us, 0, r, Heap.get?_push_size _ rfl⟩
end
abbrev Sp := List V -> Hp -> VK -> XK -> Prop
abbrev CXT := List Env -> Hp -> Shared -> XK -> Value -> Shared -> Prop
structure Env0 (P : Program) (w : World) (K : PySem.W.Frag) (mg : Str -> Option Value) (base : Heap) (A : Around) (outer : List Env) (s : Shared) (H : Hp) : Prop where
  frames : A.frames = some outer
  mod : Mod K mg base
  bs : ∀ b o, base.get? b = some o -> s.heap.get? b = some o /\ H b = none
  bsz : base.objs.size <= s.heap.objs.size
  funs : s.heap.FunFrames base outer
  frf : ∀ b ∈ frs outer, H b = none
  hok : HOk P w H s.heap
  bare : AllBare s.gens
def CE (outer : List Env) (P : Program) (w : World) (H : Hp) (s : Shared) (Q : VK) (u : Value) (s' : Shared) : Prop :=
  ∃ v H', s'.os = s.os /\ AllBare s'.gens /\ Un (frs outer) [] H H' s.heap s'.heap /\ HOk P w H' s'.heap /\ RelV v u /\ Q v H'
def CR (CX : CXT) (outer : List Env) (P : Program) (w : World) (H : Hp) (s : Shared) (Q : VK) (E : XK) (r : Result) (s' : Shared) : Prop :=
  match r with
  | .ok (.ret u) => CE outer P w H s Q u s'
  | .ok _ => False
  | .error e => CX outer H s E e s'
structure FnOk (P : Program) (w : World) (K : PySem.W.Frag) (mg : Str -> Option Value) (base : Heap) (CX : CXT) (k : Nat) (f : Addr) (fd : FuncData) (ps : List Str) (sp : Sp) : Prop where
  len : ∀ vs H Q E, sp vs H Q E -> vs.length = ps.length
  run : ∀ (A : Around) (outer : List Env) (s : Shared) (H : Hp) (args : Args) (us : List Value) (vs : List V) (Q : VK) (E : XK), Room k A -> Env0 P w K mg base A outer s H -> BindsTo s fd args (ps.zip us) -> Vals vs us -> sp vs H Q E ->
    codeAny (model P w) A (.call (.ref f) args) (CR CX outer P w H s Q E) s
section
variable {X : Cx} {pins : List (Addr × Obj)} {σ : St} {H : Hp} {s s' : Shared}
theorem Inv.env0 (I : Inv X pins σ H s) : Env0 X.prog X.w X.K X.mg X.base X.A X.stack s H :=
  ⟨I.ok.frames, I.ok.mod, I.bs, Nat.le_trans I.ok.bsz I.sz, I.stack, I.stkFree, I.hok, I.bare⟩
theorem Inv.after {Q : VK} {u : Value} (I : Inv X pins σ H s) (h : CE X.stack X.prog X.w H s Q u s') : EP X pins σ Q u s' := by
  obtain ⟨v, H', os, bare, un, hok, r, q⟩ := h
  obtain ⟨hh, g, d, t, os'⟩ := s'
  obtain rfl : os' = s.os := os
  exact ⟨v, H', I.call (h' := hh) (g' := g) (d' := d) (t' := t) (ch := []) un hok bare (fun b z => absurd z (by simp)), r, q⟩
end
def tCall (sp : Sp) (dvs : List V) (E : XK) (t : TA) : TE := fun σ H Q => t σ H fun vs H1 => sp (vs ++ dvs) H1 Q E
def Binds (K : PySem.W.Frag) (fd : FuncData) (ps : List Str) (ds : List Value) : Prop :=
  ∀ (s : Shared) (us : List Value), K.In s.heap -> (us ++ ds).length = ps.length -> BindsTo s fd ⟨us, []⟩ (ps.zip (us ++ ds))
theorem Binds.all {K : PySem.W.Frag} {fd : FuncData} {ps : List Str} (h : ∀ us : List Value, us.length = ps.length -> bindArgs fd ⟨us, []⟩ = pure (ps.zip us)) : Binds K fd ps [] := fun s us _ hl => by
  rw [List.append_nil] at hl ⊢
  exact .of_eq (h us hl)
def Passes (CX : CXT) (X : Cx) (E : XK) : Prop := ∀ (pins : List (Addr × Obj)) (σ : St) (H : Hp) (s : Shared) (e : Value) (s' : Shared), Inv X pins σ H s -> CX X.stack H s E e s' -> X.xe e s'
section
variable {X : Cx} {CX : CXT} {k : Nat} {f C : Addr} {fd : FuncData} {ps : List Str} {sp : Sp} {dvs : List V} {ds : List Value} {E : XK} {x m : Str} {p pos apos : Pos} {e o : Expr} {es : List Expr} {ta : TE} {t : TA}
theorem run_fn {pins : List (Addr × Obj)} {σ : St} {H : Hp} {s : Shared} {Q : VK} {us : List Value} {vs : List V} (F : FnOk X.prog X.w X.K X.mg X.base CX k f fd ps sp) (hr : Room k X.A) (hb : Binds X.K fd ps ds) (hd : Vals dvs ds) (hx : Passes CX X E)
    (I : Inv X pins σ H s) (r : Vals vs us) (h : sp (vs ++ dvs) H Q E) : wpAny (model X.prog X.w) X.A (call (.ref f) us) (EP X pins σ Q) X.xe s := by
  have r2 : Vals (vs ++ dvs) (us ++ ds) := r.append hd
  have hl : (us ++ ds).length = ps.length := by rw [<- r2.length]; exact F.len _ _ _ _ h
  refine wpAny_call (codeAny_mono (F.run X.A X.stack s H ⟨us, []⟩ (us ++ ds) (vs ++ dvs) Q E hr I.env0 (hb s us I.kIn hl) r2 h) fun r s' hq => ?_)
  cases r with
  | error e => exact hx pins σ H s e s' I hq
  | ok fl =>
    cases fl with
    | ret u => exact I.after hq
    | next => exact False.elim hq
    | brk => exact False.elim hq
    | cont => exact False.elim hq
theorem pe_call (F : FnOk X.prog X.w X.K X.mg X.base CX k f fd ps sp) (hr : Room k X.A) (hg : Gl X x) (hm : X.mg x = some (.ref f)) (hk : PySem.W.keepIn X.K (.ref f) = true) (hb : Binds X.K fd ps ds) (hd : Vals dvs ds) (hx : Passes CX X E)
    (ha : PA X (e :: es) t) (hdb : (x == ("__debug__" : Str)) = false := by decide) (he : starEach (e :: es) X.env = (false, eval e X.env) :: starEach es X.env := by rfl) (hpl : (backTo pos (starEach es X.env)).any (·.1) = false := by rfl) :
    PE X (.Call (.Name x p) (e :: es) [] pos) (tCall sp dvs E t) := by
  intro pins s σ H Q I h
  refine wpAny_Call_Name_kw (ld_glob I hg hm ?_ hdb)
  refine PySem.W.callWith_K (h₀ := X.base) I.ok.mod.kin hk (thn (ha pos pins s σ H _ I h) fun us s1 ⟨vs, H1, I1, r, q⟩ => ⟨I1.kIn, ?_⟩) he hpl
  exact run_fn F hr hb hd hx I1 r q
end
section
variable {X : Cx} {CX : CXT} {k : Nat} {f C : Addr} {fd : FuncData} {ps ks : List Str} {sp : Sp} {E : XK} {x m : Str} {p pos apos kpos : Pos} {e o : Expr} {es : List Expr} {kws : List Keyword} {te ta : TE} {t tk : TA} {nm : Option Str}
variable {g : List Value -> List Value -> List Value} {gV : List V -> List V -> List V}
end
structure FnScope (N P : List Str) (sc : Scope) : Prop where
  kind : sc.kind = .function
  co : sc.isCoroutine = false
  gen : sc.isGenerator = false
  nd : N.Nodup
  pre : N.take P.length = P
  par : ∀ x ∈ P, sc.names.lookup x = some .local \/ sc.names.lookup x = some .cell
  nofree : ∀ y ∈ sc.names, y.2 ≠ .free
theorem bindL_out {kindOf : Str -> Option NameKind} {x : Str} : ∀ {binds : List (Str × Value)} {m : Str -> Option Value}, (∀ v, (x, v) ∉ binds) -> bindL kindOf binds m x = m x
  | [], _, _ => rfl
  | (n, v) :: r, m, h => by
    unfold bindL
    rw [bindL_out fun w hw => h w (List.mem_cons_of_mem _ hw)]
    split
    · have : x ≠ n := by rintro rfl; exact h v List.mem_cons_self
      simp [this]
    · rfl
theorem bindC_out {kindOf : Str -> Option NameKind} {x : Str} : ∀ {binds : List (Str × Value)} {m : Str -> Option Value}, (∀ v, (x, v) ∉ binds) -> bindC kindOf binds m x = m x
  | [], _, _ => rfl
  | (n, v) :: r, m, h => by
    unfold bindC
    rw [bindC_out fun w hw => h w (List.mem_cons_of_mem _ hw)]
    split
    · rfl
    · have : x ≠ n := by rintro rfl; exact h v List.mem_cons_self
      simp [this]
theorem bindL_get {kindOf : Str -> Option NameKind} {x : Str} {v : Value} : ∀ {P : List Str} {vs : List Value} {i : Nat} {m : Str -> Option Value}, P.Nodup -> P[i]? = some x -> vs[i]? = some v -> kindOf x = some .local ->
    bindL kindOf (P.zip vs) m x = some v
  | [], _, _, _, _, h, _, _ => by simp at h
  | _ :: _, [], _, _, _, _, h, _ => by simp at h
  | p :: P, w :: vs, 0, m, nd, h1, h2, hk => by
    simp at h1 h2; subst h1; subst h2
    show bindL kindOf ((p, w) :: P.zip vs) m p = _
    unfold bindL
    rw [bindL_out fun v hv => (List.nodup_cons.mp nd).1 (List.of_mem_zip hv).1, if_pos hk]
    simp
  | p :: P, w :: vs, i + 1, m, nd, h1, h2, hk => by
    show bindL kindOf ((p, w) :: P.zip vs) m x = _
    unfold bindL
    exact bindL_get (i := i) (List.nodup_cons.mp nd).2 (by simpa using h1) (by simpa using h2) hk
theorem bindC_get {kindOf : Str -> Option NameKind} {x : Str} {v : Value} : ∀ {P : List Str} {vs : List Value} {i : Nat} {m : Str -> Option Value}, P.Nodup -> P[i]? = some x -> vs[i]? = some v -> kindOf x ≠ some .local ->
    bindC kindOf (P.zip vs) m x = some v
  | [], _, _, _, _, h, _, _ => by simp at h
  | _ :: _, [], _, _, _, _, h, _ => by simp at h
  | p :: P, w :: vs, 0, m, nd, h1, h2, hk => by
    simp at h1 h2; subst h1; subst h2
    show bindC kindOf ((p, w) :: P.zip vs) m p = _
    unfold bindC
    rw [bindC_out fun v hv => (List.nodup_cons.mp nd).1 (List.of_mem_zip hv).1, if_neg hk]
    simp
  | p :: P, w :: vs, i + 1, m, nd, h1, h2, hk => by
    show bindC kindOf ((p, w) :: P.zip vs) m x = _
    unfold bindC
    exact bindC_get (i := i) (List.nodup_cons.mp nd).2 (by simpa using h1) (by simpa using h2) hk
def start (N : List Str) (vs : List V) : St := vs.map some ++ List.replicate (N.length - vs.length) none
def cxOf (CX : CXT) (P : Program) (w : World) (K : PySem.W.Frag) (mg : Str -> Option Value) (base : Heap) (N : List Str) (qual : Str) (scope : Scope) (f : Addr) (cd : Value) (A : Around) (outer : List Env) (s : Shared) (H : Hp) (E : XK) : Cx where
  prog := P
  w := w
  K := K
  mg := mg
  base := base
  A := A.deeper (envOfC qual scope s.heap.objs.size f cd)
  N := N
  s₀ := s
  H₀ := H
  env := envOfC qual scope s.heap.objs.size f cd
  outer := outer
  stack := envOfC qual scope s.heap.objs.size f cd :: outer
  ex := []
  calm := true
  fn := fun _ => true
  pn := []
  xe := fun e s' => wpAny (model P w) (A.deeper (envOfC qual scope s.heap.objs.size f cd)) (leaving (envOfC qual scope s.heap.objs.size f cd) e) (fun _ s'' => CX outer H s E e s'') (fun e' s'' => CX outer H s E e' s'') s'
theorem cell_has {sc : Scope} {n : Nat} {x : Str} (h : sc.names.lookup x = some .cell) : ∃ c, (cellsFrom n sc.names []).lookup x = some c := by
  have q := PySem.W.cellsFrom_some sc.names n [] (.inl h)
  exact Option.isSome_iff_exists.mp q
theorem inv_start {CX : CXT} {P : Program} {w : World} {K : PySem.W.Frag} {mg : Str -> Option Value} {base : Heap} {N ps : List Str} {qual : Str} {scope : Scope} {f : Addr} {cd : Value} {A : Around} {outer : List Env} {s s1 : Shared} {H : Hp} {E : XK} {us : List Value} {vs : List V}
    (S : FnScope N ps scope) (hd : A.handled = none) (e0 : Env0 P w K mg base A outer s H) (hl : vs.length = ps.length) (r : Vals vs us)
    (x : InCallC s s.heap.objs.size (bindL (envOfC qual scope s.heap.objs.size f cd).kindOf (ps.zip us) fun _ => none) (cellsFrom (s.heap.objs.size + 1) scope.names []) (bindC (envOfC qual scope s.heap.objs.size f cd).kindOf (ps.zip us) fun _ => none) s1) :
    Inv (cxOf CX P w K mg base N qual scope f cd A outer s H E) [] (start N vs) H s1 := by
  have hpl : ps.length <= N.length := by have := congrArg List.length S.pre; rw [List.length_take] at this; lia
  obtain ⟨h1, tk, rfl, hk⟩ := x.done
  have noA : ∀ b : Addr, b ∉ (cxOf CX P w K mg base N qual scope f cd A outer s H E).ex := fun b z => absurd (show b ∈ ([] : List Addr) from z) (by simp)
  refine ⟨⟨e0.mod, S.kind, rfl, rfl, Nat.le_refl _, fun y z c h1 h2 => ?_, fun y hy => ?_, fun y c _ h => ?_, fun _ => hd, Around.frames_deeper e0.frames, .inr ⟨rfl, rfl⟩, fun b z => absurd z (noA b), e0.bs, e0.bsz, fun b _ _ => noA b, fun b z => absurd z (noA b), e0.funs, e0.frf⟩,
    rfl, e0.bare, Un.kept hk, ⟨_, x.toInCall.ns, fun i y v h1 h2 h3 => ?_⟩, fun y c h => ⟨_, x.cell y c h⟩, e0.hok.fresh (Nat.le_refl _), fun y c h => ?_, fun p hp => absurd (show p ∈ ([] : List (Addr × Obj)) from hp) (by simp), e0.hok.kept hk, ?_⟩
  · exact name_of_addr x.apart (PySem.mem_of_lookup h1) (PySem.mem_of_lookup h2)
  · have hy : scope.names.lookup y = some .cell \/ scope.names.lookup y = some .free := hy
    rcases hy with hy | hy
    · exact cell_has hy
    · exact absurd rfl (S.nofree _ (PySem.mem_of_lookup hy))
  · exact Nat.le_of_lt (x.above y c (PySem.mem_of_lookup h))
  · have hi : i < vs.length := by
      unfold start at h2
      by_cases hi : i < vs.length
      · exact hi
      · rw [List.getElem?_append_right (by simpa using hi)] at h2
        rw [List.getElem?_replicate] at h2
        split at h2 <;> cases h2
    have ha : vs[i]? = some v := by
      unfold start at h2
      rw [List.getElem?_append_left (by simpa using hi), List.getElem?_map] at h2
      cases e : vs[i]? with
      | none => rw [e] at h2; cases h2
      | some a => rw [e] at h2; cases h2; rfl
    obtain ⟨u, hu, rv⟩ := r.get ha
    have hp : ps[i]? = some y := by
      rw [<- S.pre, List.getElem?_take_of_lt (by lia)]; exact h1
    have ndP : ps.Nodup := by rw [<- S.pre]; exact S.nd.sublist (List.take_sublist _ _)
    refine ⟨u, rv, ?_⟩
    rcases S.par y (List.mem_of_getElem? hp) with k | k
    · exact .inl ⟨k, bindL_get ndP hp hu k⟩
    · obtain ⟨c, e⟩ := cell_has (n := s.heap.objs.size + 1) k
      refine .inr ⟨.inl k, c, e, ?_⟩
      have q := x.cell y c e
      rw [bindC_get ndP hp hu (by show scope.names.lookup y ≠ _; rw [k]; decide)] at q
      exact q
  · exact e0.hok.fresh (Nat.le_of_lt (x.above y c (PySem.mem_of_lookup h)))
  · unfold start
    show _ = N.length
    rw [List.length_append, List.length_map, List.length_replicate]
    lia
theorem fn_of {CX : CXT} {P : Program} {w : World} {K : PySem.W.Frag} {mg : Str -> Option Value} {base : Heap} {k : Nat} {f : Addr} {name qual : Str} {params : Arguments} {body : List Stmt} {scope : Scope} {dV kV doc pm cdv ct oc : Value} {an od : Option Addr}
    {osl : Array (Option Value)} {N ps : List Str} {sp : Sp} (lk : K.lookup f = some ⟨oc, od, .func (PySem.W.fnOf name qual params body scope dV kV doc pm an cdv ct), osl⟩) (hcd : PySem.W.codeIn K cdv qual = true) (S : FnScope N ps scope)
    (len : ∀ vs H Q E, sp vs H Q E -> vs.length = ps.length)
    (hbody : ∀ (A : Around) (outer : List Env) (s : Shared) (H : Hp) (vs : List V) (Q : VK) (E : XK), Room k (A.deeper (envOfC qual scope s.heap.objs.size f cdv)) -> sp vs H Q E ->
      ∃ t, PSs (cxOf CX P w K mg base N qual scope f cdv A outer s H E) body t /\ t { nx := fun _ H' => Q .non H', rt := Q } (start N vs) H) :
    FnOk P w K mg base CX (k + 1) f (PySem.W.fnOf name qual params body scope dV kV doc pm an cdv ct) ps sp := by
  refine ⟨len, fun A outer s H args us vs Q E hr e0 hb r hsp => ?_⟩
  have hl := len _ _ _ _ hsp
  have KX : K.In s.heap := e0.mod.kin.keeps fun b o e => (e0.bs b o e).1
  have lim : s.heap.NoLimit := e0.mod.nolimit.keeps fun b o e => (e0.bs b o e).1
  have hkind : ∀ y ∈ ps.zip us, scope.names.lookup y.1 = some .local \/ (scope.names.lookup y.1 = some .cell /\ ((cellsFrom (s.heap.objs.size + 1) scope.names []).lookup y.1).isSome = true) := fun ⟨n, v⟩ hy => by
    rcases S.par n (List.of_mem_zip hy).1 with q | q
    · exact .inl q
    · exact .inr ⟨q, PySem.W.cellsFrom_some _ _ _ (.inl q)⟩
  refine codeAny_call_function hr.depth (KX _ _ lk) rfl S.co S.gen rfl (PySem.W.codeRec_of KX hcd) (hb _ _ _ _ ?_)
  refine wpAny_newFunctionEnv_cells S.kind hkind fun env he s1 x => ?_
  subst he
  refine ⟨lim.keeps x.toInCall.keep, codeAny_func ?_⟩
  obtain ⟨t, ht, hq⟩ := hbody A outer s H vs Q E (hr.deeper _) hsp
  have I : Inv (cxOf CX P w K mg base N qual scope f cdv A outer s H E) [] (start N vs) H s1 := inv_start S hr.hd e0 hl r x
  refine wpAny_mono (ht [] s1 (start N vs) H _ I hq) (fun fl s' hs => ?_) fun e s' hs => hs
  have fin : ∀ {σ' : St} {H' : Hp} {v : V} {u : Value}, Inv (cxOf CX P w K mg base N qual scope f cdv A outer s H E) [] σ' H' s' -> RelV v u -> Q v H' -> CE outer P w H s Q u s' :=
    fun {σ' H' v u} J rv q => ⟨v, H', J.os, J.bare, J.base, J.hok, rv, q⟩
  cases fl with
  | ret u =>
    obtain ⟨v, σ', H', J, rv, q⟩ := hs
    exact fin J rv q
  | next =>
    obtain ⟨σ', H', J, q⟩ := hs
    exact fin (v := V.non) (u := Value.none) J rfl q
  | brk =>
    obtain ⟨_, _, _, q⟩ := hs
    exact False.elim q
  | cont =>
    obtain ⟨_, _, _, q⟩ := hs
    exact False.elim q
section
variable {X : Cx} {x : Str} {p pos : Pos} {e : Expr} {es : List Expr} {t : TA} {id T : String} {r : List V -> Hp -> VK -> Prop}
def tCB (r : List V -> Hp -> VK -> Prop) (t : TA) : TE := fun σ H Q => t σ H fun vs H1 => r vs H1 Q
theorem pe_callB (hc : CallR X (.builtin id) r) (hg : Gl X x) (hm : X.mg x = none) (hv : bootBuiltins x = some (.builtin id)) (ha : PA X (e :: es) t) (hn : x ≠ "__name__" := by decide) (hdb : (x == ("__debug__" : Str)) = false := by decide)
    (he : starEach (e :: es) X.env = (false, eval e X.env) :: starEach es X.env := by rfl) (hpl : (backTo pos (starEach es X.env)).any (·.1) = false := by rfl) : PE X (.Call (.Name x p) (e :: es) [] pos) (tCB r t) := by
  intro pins s σ H Q I h
  refine wpAny_Call_Name_kw (ld_blt I hg hm hv ?_ hn hdb)
  exact PyProof.Rows.callWith_builtin1 (thn (ha pos pins s σ H _ I h) fun us s1 ⟨vs, H1, I1, r1, q1⟩ => hc pins s1 σ H1 vs us Q I1 r1 q1) he hpl
theorem pe_callTy (hc : CallR X (.type T) r) (hg : Gl X x) (hm : X.mg x = none) (hv : bootBuiltins x = some (.type T)) (ha : PA X (e :: es) t) (hn : x ≠ "__name__" := by decide) (hdb : (x == ("__debug__" : Str)) = false := by decide)
    (he : starEach (e :: es) X.env = (false, eval e X.env) :: starEach es X.env := by rfl) (hpl : (backTo pos (starEach es X.env)).any (·.1) = false := by rfl) : PE X (.Call (.Name x p) (e :: es) [] pos) (tCB r t) := by
  intro pins s σ H Q I h
  refine wpAny_Call_Name_kw (ld_blt I hg hm hv ?_ hn hdb)
  exact PyProof.Rows.callWith_type1 (thn (ha pos pins s σ H _ I h) fun us s1 ⟨vs, H1, I1, r1, q1⟩ => hc pins s1 σ H1 vs us Q I1 r1 q1) he hpl
end
end L2
namespace HT
open PySem PyProof.Rows
def lexLt : List Int -> List Int -> Bool
  | [], [] => false
  | [], _ :: _ => true
  | _ :: _, [] => false
  | x :: xs, y :: ys => if x = y then lexLt xs ys else decide (x < y)
theorem lexLt_cons (x y : Int) (xs ys : List Int) : lexLt (x :: xs) (y :: ys) = if x = y then lexLt xs ys else decide (x < y) := rfl
section
open PySem.SeqAt
open PySem.AutoSeq1 (wpAny_loadPart')
open PySem.MeetsSeq PySem.MeetsSeq2 PySem.MeetsSeq3
end
section
variable {prog : Program} {w : World} {A : Around} {E : Value -> Shared -> Prop} {s : Shared}
theorem cat_tup {t b : Addr} {vs ws : List Value} {Q : Value -> Shared -> Prop} (ht : IsTup s.heap t vs.toArray) (hb : IsTup s.heap b ws.toArray) (hv : vs ≠ [])
    (h1 : ws = [] -> Q (.ref t) s) (h2 : ws ≠ [] -> Q (.ref s.heap.objs.size) { s with heap := s.heap.push { cls := .type "tuple", data := .seq (vs ++ ws).toArray } })
    (hsz : vs.length + ws.length <= sizeLine) : wpAny (model prog w) A (binaryOp .Add (.ref t) (.ref b)) Q E s := by
  obtain ⟨⟨cls, dd, data, sl⟩, ho, hc, n, hd⟩ := id ht
  obtain ⟨⟨cls2, dd2, data2, sl2⟩, ho2, hc2, n2, hd2⟩ := id hb
  simp only at hc hd hc2 hd2
  subst hc hd hc2 hd2
  have e : vs.toArray ++ ws.toArray = (vs ++ ws).toArray := by simp
  by_cases hw : ws = []
  · exact concat_meets ⟨_, ho, rfl⟩ ⟨_, ho2, rfl⟩ noFill_tuple_add seq_tuple_add PySem.F.slot_tuple_add PySem.F.entry_tuple_add (PySem.F.args_tuple_add_2 _ _)
      (tuple_addW1 t b vs.toArray ws.toArray n n2 dd dd2 sl sl2 (by simpa using hv) (by simp [hw])) ⟨ho, ho2, h1 hw⟩
  · refine concat_meets ⟨_, ho, rfl⟩ ⟨_, ho2, rfl⟩ noFill_tuple_add seq_tuple_add PySem.F.slot_tuple_add PySem.F.entry_tuple_add (PySem.F.args_tuple_add_2 _ _)
      (tuple_addW2 t b vs.toArray ws.toArray n n2 dd dd2 sl sl2 (by simpa using hv) (by simpa using hw) (by rw [List.size_toArray, List.size_toArray]; exact hsz)) ⟨ho, ho2, ?_⟩
    rw [e]
    exact h2 hw
def sIx (n d : Nat) : Option Int -> Nat
  | none => d
  | some v => if v < 0 then (v + (n : Int)).toNat else min v.toNat n
theorem sIx_nat (n d k : Nat) : sIx n d (some (k : Int)) = min k n := by
  show (if (k : Int) < 0 then ((k : Int) + (n : Int)).toNat else min (k : Int).toNat n) = min k n
  rw [if_neg (by lia), Int.toNat_natCast]
end
end HT
namespace L2
open PySem PySem.Spec PyProof.Rows
abbrev TO := St -> Hp -> (Option Int -> Hp -> Prop) -> Prop
def PO (X : Cx) (e : Option Expr) (t : TO) : Prop :=
  ∀ (pins : List (Addr × Obj)) (s : Shared) (σ : St) (H : Hp) (Q : Option Int -> Hp -> Prop), Inv X pins σ H s -> t σ H Q ->
    wpAny (model X.prog X.w) X.A (evalPart e X.env) (fun u s' => ∃ o H', Inv X pins σ H' s' /\ IsPart u o /\ Q o H') X.xe s
def tPart (t : TE) : TO := fun σ H Q => t σ H fun x H1 => ∃ i, x = .int i /\ Q (some i) H1
section
variable {X : Cx} {e : Expr} {te : TE} {lo hi : Option Expr} {tl th : TO} {pos p2 : Pos}
theorem po_some (h : PE X e te) : PO X (some e) (tPart te) := by
  intro pins s σ H Q I hw
  rw [evalPart_some]
  refine thn (h pins s σ H _ I hw) fun u s1 ⟨x, H1, I1, r1, q1⟩ => ?_
  obtain ⟨i, rfl, q⟩ := q1
  obtain ⟨t, rfl⟩ := r1
  exact ⟨some i, H1, I1, .int i t, q⟩
def SlR (X : Cx) (r : V -> Option Int -> Option Int -> Hp -> VK -> Prop) : Prop :=
  ∀ (pins : List (Addr × Obj)) (s : Shared) (σ : St) (H : Hp) (x : V) (v vl vu : Value) (lo hi : Option Int) (sl : Addr) (Q : VK), Inv X pins σ H s -> RelV x v -> s.heap.IsSliceOf sl vl vu .none -> IsPart vl lo -> IsPart vu hi -> r x lo hi H Q ->
    ∃ T id, typeLookup (.type T) "__getitem__" = pure (some (.builtin id)) /\ s.TypeIs v T /\ wpAny (model X.prog X.w) X.A (getItem v (.ref sl)) (EP X pins σ Q) X.xe s
def tSl (r : V -> Option Int -> Option Int -> Hp -> VK -> Prop) (te : TE) (tl th : TO) : TE := fun σ H Q => te σ H fun x H1 => tl σ H1 fun l H2 => th σ H2 fun u H3 => r x l u H3 Q
theorem pe_slice {r : V -> Option Int -> Option Int -> Hp -> VK -> Prop} (hr : SlR X r) (he : PE X e te) (hl : PO X lo tl) (hu : PO X hi th) : PE X (.Subscript e (.Slice lo hi none p2) pos) (tSl r te tl th) := by
  intro pins s σ H Q I h
  refine Subscript_ (thn (he pins s σ H _ I h) fun v s1 ⟨x, H1, I1, r1, q1⟩ => ?_)
  refine wpAny_Slice (thn (hl pins s1 σ H1 _ I1 q1) fun vl s2 ⟨l, H2, I2, pl, q2⟩ => thn (hu pins s2 σ H2 _ I2 q2) fun vu s3 ⟨u, H3, I3, pu, q3⟩ => ?_)
  rw [evalPart_none]
  refine wpAny_pure ?_
  have I4 : Inv X pins σ H3 { s3 with heap := s3.heap.push { cls := .type "slice", data := .fields #[vl, vu, .none] } } := I3.kept (t' := s3.toks) fun b ob q => Heap.get?_push_of_some _ q
  obtain ⟨T, id, hT, ht, hg⟩ := hr pins { s3 with heap := s3.heap.push { cls := .type "slice", data := .fields #[vl, vu, .none] } } σ H3 x v vl vu l u s3.heap.objs.size Q I4 r1 (Heap.IsSliceOf.new ..) pl pu q3
  show wpAny (model X.prog X.w) X.A (subscriptTail e (.Slice lo hi none p2) v (.ref s3.heap.objs.size)) (EP X pins σ Q) X.xe { s3 with heap := s3.heap.push { cls := .type "slice", data := .fields #[vl, vu, .none] } }
  exact tail_any (ops := [.ref s3.heap.objs.size, v]) ht hT hg (by with_unfolding_all rfl)
def cutV (xs : List V) (lo hi : Option Int) : List V := (xs.drop (HT.sIx xs.length 0 lo)).take (HT.sIx xs.length xs.length hi - HT.sIx xs.length 0 lo)
theorem cutV_length (xs : List V) (lo hi : Option Int) : (cutV xs lo hi).length <= xs.length := by
  unfold cutV
  rw [List.length_take, List.length_drop]
  lia
def rCatT (K : PySem.W.Frag) : R2 := fun x y H Q => ∃ a b xs ys, x = .ref a /\ y = .ref b /\ SqT K H a xs /\ SqT K H b ys /\ xs ≠ [] /\ xs.length + ys.length <= sizeLine /\
  (ys = [] -> Q (.ref a) H) /\ (ys ≠ [] -> ∀ p, H p = none -> Q (.ref p) (upd H p (.tup (xs ++ ys))))
theorem Vals.nil_iff {xs : List V} {us : List Value} (r : Vals xs us) : us = [] ↔ xs = [] := by
  cases r with
  | nil => simp
  | cons _ _ => simp
theorem op_catT : OpR X (binaryOp .Add) (rCatT X.K) := by
  intro pins s σ H x y v u Q I rx ry h
  obtain ⟨a, b, xs, ys, rfl, rfl, ha, hb, hx, hz, q1, q2⟩ := h
  cases rx
  cases ry
  obtain ⟨its, r1, p1, _⟩ := I.tuple ha
  obtain ⟨its2, r2, p2, _⟩ := I.tuple hb
  refine HT.cat_tup p1 p2 (fun z => hx (r1.nil_iff.mp z)) (fun z => ⟨.ref a, H, I, rfl, q1 (r2.nil_iff.mp z)⟩) (fun z => ?_) (by rw [<- r1.length, <- r2.length]; exact hz)
  refine ⟨.ref s.heap.objs.size, _, I.laid (t' := s.toks) (o := .tup (xs ++ ys)) (fun b ob q => Heap.get?_push_of_some _ q) (Nat.le_refl _) ?_, rfl, q2 (fun w => z (r2.nil_iff.mpr w)) _ (I.hok.fresh (Nat.le_refl _))⟩
  exact ⟨by rw [List.length_append]; exact hz, _, r1.append r2, IsTup.new _ _⟩
end
def ixN (n : Nat) (i : Int) : Option Nat := if 0 <= i then (if i < n then some i.toNat else none) else if -(n : Int) <= i then some (i + n).toNat else none
def atI {α : Type} (xs : List α) (i : Int) : Option α := (ixN xs.length i).bind fun j => xs[j]?
theorem ixN_seq {n : Nat} {i : Int} {j : Nat} (h : ixN n i = some j) : seqIndex? i n = some j /\ j < n /\ -(n : Int) <= i /\ i < n := by
  unfold ixN at h
  by_cases h0 : 0 <= i
  · rw [if_pos h0] at h
    by_cases h1 : i < n
    · rw [if_pos h1] at h
      have e : i.toNat = j := Option.some.inj h
      exact ⟨by rw [seqIndex_of h0 h1, e], by lia, by lia, h1⟩
    · rw [if_neg h1] at h; cases h
  · rw [if_neg h0] at h
    by_cases h1 : -(n : Int) <= i
    · rw [if_pos h1] at h
      have e : (i + n).toNat = j := Option.some.inj h
      exact ⟨by rw [seqIndex_neg (by lia) h1, e], by lia, h1, by lia⟩
    · rw [if_neg h1] at h; cases h
theorem atI_get {α : Type} {xs : List α} {i : Int} {v : α} (h : atI xs i = some v) : ∃ j, seqIndex? i xs.length = some j /\ xs[j]? = some v /\ j < xs.length /\ -(xs.length : Int) <= i /\ i < xs.length := by
  unfold atI at h
  cases e : ixN xs.length i with
  | none => rw [e] at h; cases h
  | some j =>
    rw [e] at h
    obtain ⟨h1, h2, h3, h4⟩ := ixN_seq e
    exact ⟨j, h1, h, h2, h3, h4⟩
theorem atI_nat {α : Type} {xs : List α} {j : Nat} {v : α} (h : xs[j]? = some v) : atI xs (j : Int) = some v := by
  have hj : j < xs.length := (List.getElem?_eq_some_iff.mp h).1
  have e : ixN xs.length (j : Int) = some j := by
    unfold ixN
    rw [if_pos (by lia), if_pos (by lia)]; simp
  unfold atI; rw [e]; exact h
def PlainIx (b : Expr) : Prop := ∀ o i, subscripted b false o i = operate [o, i] (getItem o i)
def IxR (X : Cx) (r : R2) : Prop :=
  ∀ (value slice : Expr) (pins : List (Addr × Obj)) (s : Shared) (σ : St) (H : Hp) (x y : V) (v u : Value) (Q : VK), Inv X pins σ H s -> RelV x v -> RelV y u -> r x y H Q ->
    subscripted slice false v u = operate [v, u] (getItem v u) -> wpAny (model X.prog X.w) X.A (subscriptTail value slice v u) (EP X pins σ Q) X.xe s
def MtR (X : Cx) (id : String) (r : V -> List V -> Hp -> VK -> Prop) : Prop :=
  ∀ (pins : List (Addr × Obj)) (s : Shared) (σ : St) (H : Hp) (x : V) (xs : List V) (v : Value) (us : List Value) (Q : VK), Inv X pins σ H s -> RelV x v -> Vals xs us -> r x xs H Q ->
    wpAny (model X.prog X.w) X.A (call (.builtin id) (v :: us)) (EP X pins σ Q) X.xe s
section
variable {X : Cx} {a b : Expr} {ta tb : TE} {pos : Pos}
theorem pe_ix {r : R2} (hr : IxR X r) (ha : PE X a ta) (hb : PE X b tb) (hs : PlainIx b) : PE X (.Subscript a b pos) (tOp r ta tb) := by
  intro pins s σ H Q I h
  exact Subscript_ (binT ha hb I h fun v u s2 x y H2 I2 rx ry q => hr a b pins s2 σ H2 x y v u Q I2 rx ry q (hs _ _))
def rIxL (K : PySem.W.Frag) : R2 := fun x y H Q => ∃ p xs i v, x = .ref p /\ y = .int i /\ SqL K H p xs /\ atI xs i = some v /\ Q v H
def rIxT (K : PySem.W.Frag) : R2 := fun x y H Q => ∃ p xs i v, x = .ref p /\ y = .int i /\ SqT K H p xs /\ atI xs i = some v /\ Q v H
theorem ix_list : IxR X (rIxL X.K) := by
  intro value slice pins s σ H x y v u Q I rx ry h hs
  obtain ⟨p, xs, i, z, rfl, rfl, hq, he, q⟩ := h
  cases rx
  obtain ⟨t, rfl⟩ := ry
  obtain ⟨its, r, pl, hz⟩ := I.list hq
  obtain ⟨j, h1, h2, h3, h4, h5⟩ := atI_get he
  obtain ⟨w, ew, rw'⟩ := r.get h2
  have hl := r.length
  have hn := line63
  have fin : EP X pins σ Q w s := ⟨z, H, I, rw', q⟩
  by_cases h0 : 0 <= i
  · have hj : i.toNat = j := by
      rw [seqIndex_of h0 h5] at h1
      exact Option.some.inj h1
    exact item_listR pl.isList h0 (by lia) (by rw [hj]; simpa using ew) fin hs
  · have hj : (i + (its.toArray.size : Int)).toNat = j := by
      rw [seqIndex_neg (by lia) h4] at h1
      rw [List.size_toArray, <- hl]
      exact Option.some.inj h1
    exact subscriptTail_builtinR (x := w) pl.isList.typeIs slot_list_getitem.lookup
      (wpAny_getItem_list_neg (Q := fun r s' => r = w /\ EP X pins σ Q r s') pl.isList (by lia) (by rw [List.size_toArray] <;> lia) (by lia) (by rw [hj]; simpa using ew) ⟨rfl, fin⟩) hs
theorem ix_tup : IxR X (rIxT X.K) := by
  intro value slice pins s σ H x y v u Q I rx ry h hs
  obtain ⟨p, xs, i, z, rfl, rfl, hq, he, q⟩ := h
  cases rx
  obtain ⟨t, rfl⟩ := ry
  obtain ⟨its, r, pl, hz⟩ := I.tuple hq
  obtain ⟨j, h1, h2, h3, h4, h5⟩ := atI_get he
  obtain ⟨w, ew, rw'⟩ := r.get h2
  have hl := r.length
  have hn := line63
  have fin : EP X pins σ Q w s := ⟨z, H, I, rw', q⟩
  exact subscriptTail_builtinR (x := w) pl.typeIs slot_tuple_getitem.lookup
    (getItem_tuple (j := j) (Q := fun r s' => r = w /\ EP X pins σ Q r s') pl (by lia) (by lia) (by rw [List.size_toArray, <- hl]; exact h1) (by simpa using ew) ⟨rfl, fin⟩) hs
theorem mapSeq_set (its : List Value) (n j : Nat) (u : Value) : Obj.mapSeq (·.setIfInBounds j u) { cls := .type "list", data := .seq its.toArray n } = { cls := .type "list", data := .seq (its.set j u).toArray n } := by
  simp [Obj.mapSeq]
theorem Inv.lst {pins : List (Addr × Obj)} {σ : St} {H : Hp} {s : Shared} {p : Addr} {xs : List V} (I : Inv X pins σ H s) (h : H p = some (.lst xs)) :
    ∃ (its : List Value) (n : Nat), Vals xs its /\ s.heap.get? p = some { cls := .type "list", data := .seq its.toArray n } /\ xs.length <= sizeLine := by
  obtain ⟨z, its, n, r, e⟩ := I.hok p _ h
  exact ⟨its, n, r, e, z⟩
theorem Inv.lstUpd {pins : List (Addr × Obj)} {σ : St} {H : Hp} {s : Shared} {p : Addr} {xs ys : List V} {its its' : List Value} {n n' : Nat} {f : Obj -> Obj} (I : Inv X pins σ H s) (h : H p = some (.lst xs))
    (ho : s.heap.get? p = some { cls := .type "list", data := .seq its.toArray n }) (hf : f { cls := .type "list", data := .seq its.toArray n } = { cls := .type "list", data := .seq its'.toArray n' }) (r : Vals ys its') (hz : ys.length <= sizeLine) (t : Nat) :
    Inv X pins σ (upd H p (.lst ys)) { s with heap := s.heap.update p f, toks := t } := by
  have e : (s.heap.update p f).get? p = some { cls := .type "list", data := .seq its'.toArray n' } := by
    rw [Heap.get?_update_self f ho (by rw [hf] <;> rfl), hf]
  refine I.write (x := p) (e := p) (by rw [h]; trivial) (.inl rfl) (fun b u hb q => (Heap.get?_update_other _ _ (Ne.symm hb)).trans q) ⟨_, e⟩ ?_
  exact ⟨hz, its', n', r, e⟩
def rSetL : V -> V -> V -> Hp -> (Hp -> Prop) -> Prop := fun o i v H Q => ∃ p xs k j, o = .ref p /\ i = .int k /\ H p = some (.lst xs) /\ ixN xs.length k = some j /\ Q (upd H p (.lst (xs.set j v)))
theorem set_list : PSet X rSetL := by
  intro pins s σ H o i v ov iv u Q I ro ri rv h
  obtain ⟨p, xs, k, j, rfl, rfl, hp, hj, q⟩ := h
  cases ro
  obtain ⟨t, rfl⟩ := ri
  obtain ⟨its, n, r, ho, hz⟩ := I.lst hp
  obtain ⟨h1, h2, h3, h4⟩ := ixN_seq hj
  have hl := r.length
  have hn := line63
  have I' : Inv X pins σ (upd H p (.lst (xs.set j v))) { s with heap := s.heap.update p (Obj.mapSeq (·.setIfInBounds j u)) } :=
    I.lstUpd hp ho (mapSeq_set its n j u) (r.set rv j) (by rw [List.length_set]; exact hz) s.toks
  by_cases h0 : 0 <= k
  · have hk : k.toNat = j := by
      rw [seqIndex_of h0 h4] at h1
      exact Option.some.inj h1
    exact PySem.W.ki_setAt ho h0 (by lia) (by rw [List.size_toArray, <- hl]; exact h4) (by rw [hk]; exact ⟨_, I', q⟩)
  · have hk : (k + (its.toArray.size : Int)).toNat = j := by
      rw [seqIndex_neg (by lia) h3] at h1
      rw [List.size_toArray, <- hl]
      exact Option.some.inj h1
    exact PySem.W.ki_setBack ho (by lia) (by rw [List.size_toArray, <- hl]; exact h3) (by lia) (by rw [hk]; exact ⟨_, I', q⟩)
theorem slice_bounds (lo hi : Option Int) (n : Nat) : (sliceBounds lo hi none n).1 = ((HT.sIx n 0 lo : Nat) : Int) /\ (sliceBounds lo hi none n).2.1 = ((HT.sIx n n hi : Nat) : Int) /\ (sliceBounds lo hi none n).2.2 = 1 := by
  refine ⟨?_, ?_, rfl⟩
  · cases lo with
    | none => simp [sliceBounds, HT.sIx]
    | some i =>
      simp only [sliceBounds, HT.sIx, Option.getD_none, show (1 : Int) > 0 by decide, if_true]
      by_cases h : i < 0
      · simp only [h, if_true] <;> lia
      · simp only [h, if_false] <;> lia
  · cases hi with
    | none => simp [sliceBounds, HT.sIx]
    | some i =>
      simp only [sliceBounds, HT.sIx, Option.getD_none, show (1 : Int) > 0 by decide, if_true]
      by_cases h : i < 0
      · simp only [h, if_true] <;> lia
      · simp only [h, if_false] <;> lia
theorem slicePick_cut (its : List Value) (lo hi : Option Int) : slicePick its.toArray lo hi none = ((its.drop (HT.sIx its.length 0 lo)).take (HT.sIx its.length its.length hi - HT.sIx its.length 0 lo)).toArray := by
  obtain ⟨h1, h2, h3⟩ := slice_bounds lo hi its.toArray.size
  unfold slicePick
  rw [h1, h2, h3]
  simp only [sliceRange_one, pick_run, List.size_toArray] <;> rfl
def rSlL (K : PySem.W.Frag) : V -> Option Int -> Option Int -> Hp -> VK -> Prop := fun x lo hi H Q => ∃ a xs, x = .ref a /\ SqL K H a xs /\ ∀ p, H p = none -> Q (.ref p) (upd H p (.lst (cutV xs lo hi)))
theorem sl_list : SlR X (rSlL X.K) := by
  intro pins s σ H x v vl vu lo hi sl Q I rx hs pl pu h
  obtain ⟨a, xs, rfl, hx, q⟩ := h
  cases rx
  obtain ⟨its, r, ht, hz⟩ := I.list hx
  have hlen := r.length
  refine ⟨"list", _, slot_list_getitem.lookup, ht.isList.typeIs, ?_⟩
  refine wpAny_getItem_list_slice ht.isList hs pl pu .none (by simp) ?_ (by rw [List.size_toArray] <;> lia)
  rw [slicePick_cut, <- hlen]
  refine ⟨.ref s.heap.objs.size, _, I.laid (t' := s.toks) (o := .lst (cutV xs lo hi)) (fun b ob q => Heap.get?_push_of_some _ q) (Nat.le_refl _) ?_, rfl, q _ (I.hok.fresh (Nat.le_refl _))⟩
  exact ⟨Nat.le_trans (cutV_length xs lo hi) hz, _, 0, (r.drop (HT.sIx xs.length 0 lo)).take (HT.sIx xs.length xs.length hi - HT.sIx xs.length 0 lo), Heap.get?_push_size _ rfl⟩
def flatV : V -> Bool
  | .non => true
  | .bl _ => true
  | .int _ => true
  | .str _ => true
  | _ => false
def eqV : V -> V -> Bool
  | .non, .non => true
  | .bl a, .bl b => a == b
  | .bl a, .int b => (if a then 1 else 0) == b
  | .int a, .bl b => a == (if b then 1 else 0)
  | .int a, .int b => a == b
  | .str a, .str b => a == b
  | _, _ => false
theorem eqAt_V {A : Around} {s : Shared} {y x : V} {u v : Value} (ry : RelV y u) (rx : RelV x v) (fy : flatV y = true) (fx : flatV x = true) : SeqAt.EqAt A s u v (eqV y x) := by
  cases y with
  | non =>
    cases ry
    cases x with
    | non => cases rx; exact SeqAt.EqAt.same _
    | bl b => cases rx; exact SeqAt.EqAt.none_bool b
    | int b => obtain ⟨t, rfl⟩ := rx; exact SeqAt.EqAt.none_int b t
    | str b => obtain ⟨t, rfl⟩ := rx; exact SeqAt.EqAt.none_str b t
    | _ => exact absurd (show false = true from fx) Bool.false_ne_true
  | bl a =>
    cases ry
    cases x with
    | non => cases rx; exact SeqAt.EqAt.bool_none a
    | bl b => cases rx; exact SeqAt.EqAt.bool_bool a b
    | int b => obtain ⟨t, rfl⟩ := rx; exact SeqAt.EqAt.bool_int a b t
    | str b => obtain ⟨t, rfl⟩ := rx; exact SeqAt.EqAt.bool_str a b t
    | _ => exact absurd (show false = true from fx) Bool.false_ne_true
  | int a =>
    obtain ⟨t', rfl⟩ := ry
    cases x with
    | non => cases rx; exact SeqAt.EqAt.int_none a t'
    | bl b => cases rx; exact SeqAt.EqAt.int_bool a t' b
    | int b => obtain ⟨t, rfl⟩ := rx; exact SeqAt.EqAt.int_int a t' b t
    | str b => obtain ⟨t, rfl⟩ := rx; exact SeqAt.EqAt.int_str a t' b t
    | _ => exact absurd (show false = true from fx) Bool.false_ne_true
  | str a =>
    obtain ⟨t', rfl⟩ := ry
    cases x with
    | non => cases rx; exact SeqAt.EqAt.str_none a t'
    | bl b => cases rx; exact SeqAt.EqAt.str_bool a t' b
    | int b => obtain ⟨t, rfl⟩ := rx; exact SeqAt.EqAt.str_int a t' b t
    | str b => obtain ⟨t, rfl⟩ := rx; exact SeqAt.EqAt.str_str a t' b t
    | _ => exact absurd (show false = true from fx) Bool.false_ne_true
  | _ => exact absurd (show false = true from fy) Bool.false_ne_true
theorem call_len_seq : CallR X (.builtin "len") (fun xs H Q => ∃ p ys, xs = [.ref p] /\ (SqL X.K H p ys \/ SqT X.K H p ys) /\ Q (.int ys.length) H) := by
  intro pins s σ H xs us Q I r h
  obtain ⟨p, ys, rfl, hq, q⟩ := h
  obtain ⟨u, rfl, rx⟩ := vals1 r
  cases rx
  have hn := line63
  rcases hq with hq | hq
  · obtain ⟨its, r', pl, hz⟩ := I.list hq
    have hlen := r'.length
    exact Calls.call_len_list pl.isList (by simp only [List.size_toArray] <;> lia) ⟨.int ys.length, H, I.tok _, ⟨s.toks + 1, by rw [List.size_toArray, hlen]⟩, q⟩
  · obtain ⟨its, r', pl, hz⟩ := I.tuple hq
    have hlen := r'.length
    exact len_tuple pl (by simp only [List.size_toArray] <;> lia) ⟨.int ys.length, H, I.tok _, ⟨s.toks + 1, by rw [List.size_toArray, hlen]⟩, q⟩
theorem call_list_of : CallR X (.type "list") (fun xs H Q => ∃ p ys, xs = [.ref p] /\ (SqL X.K H p ys \/ SqT X.K H p ys) /\ ∀ l, H l = none -> Q (.ref l) (upd H l (.lst ys))) := by
  intro pins s σ H xs us Q I r h
  obtain ⟨p, ys, rfl, hq, q⟩ := h
  obtain ⟨u, rfl, rx⟩ := vals1 r
  cases rx
  have fin : ∀ (its : List Value), Vals ys its -> ys.length <= sizeLine -> ∀ (h' : Heap) (c' : Nat), (∀ b o', s.heap.get? b = some o' -> h'.get? b = some o') ->
      h'.get? s.heap.objs.size = some { cls := .type "list", dict := none, data := .seq its.toArray c', slots := #[] } -> EP X pins σ Q (.ref s.heap.objs.size) { s with heap := h' } := fun its r' hz h' c' kp e =>
    ⟨.ref s.heap.objs.size, _, I.laid (t' := s.toks) kp (Nat.le_refl _) (show ObjOk X.prog X.w _ h' _ (.lst ys) from ⟨hz, its, c', r', e⟩), rfl, q _ (I.hok.fresh (Nat.le_refl _))⟩
  rcases hq with hq | hq
  · obtain ⟨its, r', pl, hz⟩ := I.list hq
    have hlen := r'.length
    obtain ⟨o, ho, hc, n, hd⟩ := pl.isList
    exact call_list_seq p (.inl rfl) ho hc hd (fun h' c' kp e => fin its r' hz h' c' kp e) (by simp only [List.size_toArray] <;> lia)
  · obtain ⟨its, r', pl, hz⟩ := I.tuple hq
    have hlen := r'.length
    obtain ⟨o, ho, hc, n, hd⟩ := pl
    exact call_list_seq p (.inr rfl) ho hc hd (fun h' c' kp e => fin its r' hz h' c' kp e) (by simp only [List.size_toArray] <;> lia)
theorem call_tuple_of : CallR X (.type "tuple") (fun xs H Q => ∃ p ys, xs = [.ref p] /\ ((SqL X.K H p ys /\ ∀ l, H l = none -> Q (.ref l) (upd H l (.tup ys))) \/ (SqT X.K H p ys /\ Q (.ref p) H))) := by
  intro pins s σ H xs us Q I r h
  obtain ⟨p, ys, rfl, h⟩ := h
  obtain ⟨u, rfl, rx⟩ := vals1 r
  cases rx
  rcases h with ⟨hq, q⟩ | ⟨hq, q⟩
  · obtain ⟨its, r', pl, hz⟩ := I.list hq
    have hlen := r'.length
    refine call_tuple_list pl.isList (fun h' kp => ?_) (by simp only [List.size_toArray] <;> lia)
    have I1 : Inv X pins σ H { s with heap := h' } := I.kept (t' := s.toks) kp
    have I2 : Inv X pins σ (upd H h'.objs.size (.tup ys)) { s with heap := h'.push { cls := .type "tuple", data := .seq its.toArray } } :=
      I1.laid (t' := s.toks) (fun b o e => Heap.get?_push_of_some _ e) (Nat.le_refl _) (show ObjOk X.prog X.w _ _ _ (.tup ys) from ⟨hz, its, r', IsTup.new _ _⟩)
    exact ⟨.ref h'.objs.size, _, I2, rfl, q _ (I1.hok.fresh (Nat.le_refl _))⟩
  · obtain ⟨its, r', pl, hz⟩ := I.tuple hq
    exact call_tuple_same pl ⟨.ref p, H, I, rfl, q⟩
def tyV (K : PySem.W.Frag) (T : String) (x : V) (H : Hp) : Prop := match x with
  | .str _ => T = "str"
  | .int _ => T = "int"
  | .ref p => (T = "list" /\ ∃ xs, SqL K H p xs) \/ (T = "tuple" /\ ∃ o, K.lookup p = some o /\ o.cls = .type "tuple" /\ o.dict = none) \/
      (T = "dict" /\ ((∃ kvs, H p = some (.dK kvs)) \/ ∃ kvs, H p = some (.dT kvs))) \/ (T = "set" /\ ∃ S n, H p = some (.set S n))
  | _ => False
theorem tyV_is {pins : List (Addr × Obj)} {σ : St} {H : Hp} {s : Shared} {T : String} {x : V} {v : Value} (I : Inv X pins σ H s) (r : RelV x v) (ty : tyV X.K T x H) :
    s.TypeIs v T /\ ∀ a, v = .ref a -> ∃ ob, s.heap.get? a = some ob /\ ob.dict = none := by
  cases x with
  | str z =>
    obtain ⟨t, rfl⟩ := r
    cases (show T = "str" from ty)
    exact ⟨typeIs_str s z t, fun _ e => nomatch e⟩
  | int i =>
    obtain ⟨t, rfl⟩ := r
    cases (show T = "int" from ty)
    exact ⟨typeIs_int s i t, fun _ e => nomatch e⟩
  | ref p =>
    cases r
    rcases ty with ⟨rfl, xs, hq⟩ | ⟨rfl, o, hk, hc, hd⟩ | ⟨rfl, hk⟩ | ⟨rfl, S, n, hk⟩
    · obtain ⟨its, _, pl, _⟩ := I.list hq
      refine ⟨pl.isList.typeIs, fun a e => ?_⟩
      cases e
      obtain ⟨o, n, e, c, hd, _⟩ := pl
      exact ⟨o, e, hd⟩
    · refine ⟨⟨o, I.kIn p o hk, hc⟩, fun a e => ?_⟩
      cases e
      exact ⟨o, I.kIn _ o hk, hd⟩
    · have z : ∃ o, s.heap.get? p = some o /\ o.ExactDict := by
        rcases hk with ⟨kvs, hk⟩ | ⟨kvs, hk⟩
        · obtain ⟨_, _, _, _, o, _, _, e, ex, _⟩ := I.hok p _ hk
          exact ⟨o, e, ex⟩
        · obtain ⟨_, _, _, _, o, _, _, e, ex, _⟩ := I.hok p _ hk
          exact ⟨o, e, ex⟩
      obtain ⟨o, e, ex⟩ := z
      refine ⟨⟨o, e, ex.1⟩, fun a e2 => ?_⟩
      cases e2
      exact ⟨o, e, ex.2.1⟩
    · obtain ⟨o, _, _, _, e, ex, _⟩ := I.hok p _ hk
      refine ⟨⟨o, e, ex.1⟩, fun a e2 => ?_⟩
      cases e2
      exact ⟨o, e, ex.2.1⟩
  | _ => exact False.elim ty
def tBM (K : PySem.W.Frag) (T : String) (r : V -> List V -> Hp -> VK -> Prop) (to : TE) (t : TA) : TE := fun σ H Q => to σ H fun x H1 => tyV K T x H1 /\ t σ H1 fun xs H2 => r x xs H2 Q
variable {o e : Expr} {es : List Expr} {to : TE} {t : TA} {name : Str} {apos cpos : Pos} {T id : String} {r : V -> List V -> Hp -> VK -> Prop}
theorem pe_bm (pa : PlainAttrs T) (slot : Slot T name id) (hty : typeOf (.builtin id) = pure (.type "method_descriptor")) (hm : MtR X id r) (ho : PE X o to) (ha : PA X (e :: es) t)
    (hbase : attributeBase o name X.env (eval o X.env) = eval o X.env := by rfl)
    (hfew : ((backTo cpos (starEach (e :: es) X.env)).all (fun x => !x.1) && (backToKw cpos (keywordEach [] X.env)).all (fun x => x.1.isSome)
      && decide ((e :: es).length + ([] : List Keyword).length + (if ([] : List Keyword).isEmpty then 0 else 1) < 30)) = true := by rfl)
    (hline : (apos.endLine == cpos.line) = true := by rfl) (hs : starEach (e :: es) X.env = (false, eval e X.env) :: starEach es X.env := by rfl) (hplain : (backTo cpos (starEach es X.env)).any (·.1) = false := by rfl) :
    PE X (.Call (.Attribute o name apos) (e :: es) [] cpos) (tBM X.K T r to t) := by
  intro pins s σ H Q I h
  refine wpAny_Call_method_late hbase hfew hline rfl (thn (ho pins s σ H _ I h) fun v s1 ⟨x, H1, I1, r1, ty, q1⟩ => ?_)
  obtain ⟨h1, h2⟩ := tyV_is I1 r1 ty
  refine ⟨T, id, pa, slot, hty, h1, h2, ?_⟩
  have hA := ha cpos pins s1 σ H1 _ I1 q1
  rw [hs] at hA ⊢
  refine Calls.callWith_builtin (by show (false || (backTo cpos (starEach es X.env)).any (·.1)) = false; rw [hplain] <;> rfl) (Calls.evalArgs_plain ?_)
  exact thn hA fun us s2 ⟨vs, H2, I2, r2, q2⟩ => hm pins s2 σ H2 x vs v us Q I2 r1 r2 q2
/- xs.append(e), list.index on a module's tuple .. are MtR facts of 06m -/
end
def MtM (X : Cx) (id : String) (r : V -> List V -> Hp -> VK -> Prop) : Prop :=
  ∀ (pins : List (Addr × Obj)) (s : Shared) (σ : St) (H : Hp) (x : V) (xs : List V) (v : Value) (us : List Value) (Q : VK), Inv X pins σ H s -> RelV x v -> Vals xs us -> r x xs H Q ->
    wpAny (model X.prog X.w) X.A (call (.builtin id) (v :: us)) (EP X pins σ Q) X.xe s
theorem Vals.one : ∀ {x : V} {us : List Value}, Vals [x] us -> ∃ u, us = [u] /\ RelV x u
  | _, _, .cons r .nil => ⟨_, rfl, r⟩
theorem Vals.two : ∀ {x y : V} {us : List Value}, Vals [x, y] us -> ∃ u v, us = [u, v] /\ RelV x u /\ RelV y v := by
  intro x y us h
  cases h with
  | cons r h => cases h with
    | cons q h => cases h; exact ⟨_, _, rfl, r, q⟩
theorem Vals.zero : ∀ {us : List Value}, Vals [] us -> us = []
  | _, .nil => rfl
section
variable {X : Cx} {pins : List (Addr × Obj)} {σ : St} {H : Hp} {s : Shared} {l b : Addr} {xs ys zs : List V}
theorem Inv.lset {its its' : List Value} {n : Nat} {f : Array Value -> Array Value} {t' : Nat} (I : Inv X pins σ H s) (hH : H l = some (.lst xs))
    (e : s.heap.get? l = some { cls := .type "list", data := .seq its.toArray n }) (hf : f its.toArray = its'.toArray) (hv : Vals ys its') (hz : ys.length <= sizeLine) :
    Inv X pins σ (upd H l (.lst ys)) { s with heap := s.heap.update l (Obj.mapSeq f), toks := t' } := by
  have q := PySem.IsL.update e f
  rw [hf] at q
  refine I.write (x := l) (e := l) (by rw [hH]; exact trivial) (.inl rfl) (fun b' u hb hu => (Heap.get?_update_other s.heap (Obj.mapSeq f) (Ne.symm hb)).trans hu) ⟨_, q⟩ ?_
  exact ⟨hz, its', _, hv, q⟩
theorem Inv.lnew {its : List Value} {t' : Nat} (I : Inv X pins σ H s) (hv : Vals ys its) (hz : ys.length <= sizeLine) :
    Inv X pins σ (upd H s.heap.objs.size (.lst ys)) { s with heap := s.heap.push { cls := .type "list", data := .seq its.toArray }, toks := t' } :=
  I.laid (fun _ _ q => Heap.get?_push_of_some _ q) (Nat.le_refl _) ⟨hz, its, 0, hv, Heap.get?_push_size _ rfl⟩
theorem Inv.fresh (I : Inv X pins σ H s) : H s.heap.objs.size = none := I.hok.fresh (Nat.le_refl _)
theorem Inv.lstM (I : Inv X pins σ H s) (hH : H l = some (.lst xs)) : xs.length <= sizeLine /\ ∃ (its : List Value) (n : Nat), Vals xs its /\ xs.length = its.length /\ s.heap.get? l = some { cls := .type "list", data := .seq its.toArray n } := by
  obtain ⟨z, its, n, r, e⟩ := I.hok l _ hH
  exact ⟨z, its, n, r, r.length, e⟩
theorem notLongL {n : Nat} (h : n <= sizeLine) : Builtin.List.listTooLong n = false := by
  unfold Builtin.List.listTooLong
  exact decide_eq_false (by lia)
end
section
variable {X : Cx}
def rAppend : V -> List V -> Hp -> VK -> Prop := fun x vs H Q => ∃ l xs y, x = .ref l /\ vs = [y] /\ H l = some (.lst xs) /\ xs.length < sizeLine /\ Q .non (upd H l (.lst (xs ++ [y])))
theorem mt_append : MtM X "list.append" rAppend := by
  intro pins s σ H x vs v us Q I rx rv h
  obtain ⟨l, xs, y, rfl, rfl, hH, hz, q⟩ := h
  cases rx
  obtain ⟨u, rfl, ru⟩ := rv.one
  obtain ⟨z, its, n, r, hl, e⟩ := I.lstM hH
  refine call_meets F.slot_list_append ⟨_, e, rfl⟩ F.entry_list_append (F.args_list_append_2 _ _) (PySem.list_append l its.toArray n u (by rw [List.size_toArray]; lia)) ⟨e, ?_⟩
  refine ⟨.non, _, I.lset (its' := its ++ [u]) hH e (by simp) (r.append (.cons ru .nil)) ?_, rfl, q⟩
  rw [List.length_append, List.length_singleton]
  lia
def rExtend : V -> List V -> Hp -> VK -> Prop := fun x vs H Q => ∃ l b xs zs, x = .ref l /\ vs = [.ref b] /\ H l = some (.lst xs) /\ H b = some (.lst zs) /\ xs.length + zs.length <= sizeLine /\ Q .non (upd H l (.lst (xs ++ zs)))
theorem mt_extend : MtM X "list.extend" rExtend := by
  intro pins s σ H x vs v us Q I rx rv h
  obtain ⟨l, b, xs, zs, rfl, rfl, hH, hB, hz, q⟩ := h
  cases rx
  obtain ⟨u, rfl, ru⟩ := rv.one
  cases ru
  obtain ⟨z, its, n, r, hl, e⟩ := I.lstM hH
  obtain ⟨z2, its2, n2, r2, hl2, e2⟩ := I.lstM hB
  have hsz : its.toArray.size + its2.toArray.size <= sizeLine := by rw [List.size_toArray, List.size_toArray]; lia
  have hlong : ¬ (!its.toArray.isEmpty && Builtin.List.listTooLong (its.toArray.size + its2.toArray.size)) = true := by
    rw [notLongL hsz, Bool.and_false]
    exact Bool.false_ne_true
  refine call_meets F.slot_list_extend ⟨_, e, rfl⟩ F.entry_list_extend (F.args_list_extend_2 _ _)
    (AutoSeq1.list_extend_list_list_0 l its.toArray n b its2.toArray n2 hlong (by rw [List.size_toArray]; lia) (by lia)) ⟨e, e2, ?_⟩
  refine ⟨.non, _, I.lset (its' := its ++ its2) hH e (by simp) (r.append r2) ?_, rfl, q⟩
  rw [List.length_append]
  lia
def rCat : R2 := fun x y H Q => ∃ l b xs zs, x = .ref l /\ y = .ref b /\ H l = some (.lst xs) /\ H b = some (.lst zs) /\ xs.length + zs.length <= sizeLine /\ ∀ p, H p = none -> Q (.ref p) (upd H p (.lst (xs ++ zs)))
theorem op_cat : OpR X (binaryOp .Add) rCat := by
  intro pins s σ H x y v u Q I rx ry h
  obtain ⟨l, b, xs, zs, rfl, rfl, hH, hB, hz, q⟩ := h
  cases rx
  cases ry
  obtain ⟨z, its, n, r, hl, e⟩ := I.lstM hH
  obtain ⟨z2, its2, n2, r2, hl2, e2⟩ := I.lstM hB
  refine PySem.P.add_list e e2 ?_ (by rw [List.size_toArray, List.size_toArray]; lia)
  have ea : its.toArray ++ its2.toArray = (its ++ its2).toArray := by simp
  rw [ea]
  exact ⟨.ref _, _, I.lnew (t' := s.toks) (r.append r2) (by rw [List.length_append]; lia), rfl, q _ I.fresh⟩
end
section
variable {prog : Program} {w : World} {A : Around} {E : Value -> Shared -> Prop} {s : Shared}
set_option maxRecDepth 100000 in
end
section
variable {X : Cx}
end
end L2
namespace Att
open PySem PySem.W PySem.Calls PyProof.Rows
theorem ints_of_wellAll {P : Params} {h : Heap} : ∀ (ns : List Int) (vs : List Value), WellAll P h vs (ns.map WData.int) -> IntsAre vs ns := by
  intro ns
  induction ns with
  | nil =>
    intro vs w
    rw [List.map_nil] at w
    cases w
    exact .nil
  | cons n ns ih =>
    intro vs w
    rw [List.map_cons] at w
    cases w with
    | cons a b =>
      cases a
      exact .cons _ _ (ih _ b)
theorem script_of {l : OpenLaw} {n : Nat} (hn : l.most = some n) {P : Params} {h : Heap} {args : List WData} {vals : List Value}
    (hpre : l.row.toRowW.claim.pre args = true) (hwl : WellAll P h vals args) :
    ∃ a vs ns, vals = [Value.ref a] /\ args = [WData.list (ns.map WData.int)] /\ h.get? a = some { cls := .type "list", data := .seq vs.toArray } /\ IntsAre vs ns /\ ns.length <= n := by
  have hsh : WShape.hasAll [] args [.list .int] = true := (pre_splitW hpre).1
  have hc : l.pre.holds [] { args := args } = true := (pre_splitW hpre).2
  obtain ⟨d, r, rfl, h1, h2⟩ := hasAllW_cons hsh
  obtain rfl := hasAllW_nil h2
  obtain ⟨xs, rfl, h3⟩ := hasW_list h1
  obtain ⟨ns, rfl⟩ := items_int h3
  have hlen : ns.length <= n := by
    unfold OpenLaw.pre at hc
    have h4 : (WTm.not (.lt (.lit (.int (n : Int))) (.len (.arg 0)))).holds [] { args := [.list (ns.map .int)] } = true := by
      have h4 := (holds_andW hc).1
      rw [hn] at h4
      exact h4
    have h5 := condW_of h4 (w_not (w_lt w_lit (w_len_list (w_arg rfl))))
    rw [List.length_map] at h5
    refine Nat.le_of_not_lt fun q => ?_
    have q' : (n : Int) < ((ns.length : Nat) : Int) := by lia
    first
      | (rw [decide_eq_true q'] at h5; exact absurd h5 (by decide))
      | (simp at h5; lia)
  cases hwl with
  | cons w1 w2 =>
    cases w2
    cases w1 with
    | list ho hall => exact ⟨_, _, ns, rfl, rfl, ho, ints_of_wellAll ns _ hall, hlen⟩
theorem post_true (l : OpenLaw) (args : List WData) : l.row.toRowW.claim.post args (.bool true) args = true :=
  postW_of (r := l.row.toRowW) (X := (true == true))
    (show WShape.has [] (.bool true) .bool = true by first | rfl | decide | simp [WShape.has, WShape.arms, WShape.armsAll])
    (show (WTm.eq .res (.lit (.bool true))).value [] { args := args, res := some (.bool true), after := args } = some (.bool (true == true)) from w_eq_bool (w_res rfl) w_lit) rfl
theorem attach_call {l : OpenLaw} {n : Nat} {q : Program} {loose : List Str} {XP : (Str -> Option Value) -> Heap -> Prop} {YP : World -> Heap -> Prop} {d : DefRec}
    (hn : l.most = some n) (hdf : d.params.defaults = [])
    (call : ∀ (w : World) (s₀ s₁ : Shared) (mg mb : Str -> Option Value) (fa : Addr) (o : Obj) (pm cd doc : Value) (a : Addr) (vs : List Value) (ns : List Int),
      Ground q loose [] XP w s₀ mg mb s₁.heap -> YP w s₁.heap ->
      s₁.heap.get? fa = some o -> o.data = .func (docDef d.name d.params d.body d.scope pm cd doc) -> s₁.heap.CodeRec cd d.name -> mg d.name = some (.ref fa) ->
      s₁.heap.get? a = some { cls := .type "list", data := .seq vs.toArray } -> IntsAre vs ns -> ns.length <= n -> s₁.gens = #[] ->
      codeAny (model l.prog w) callerA (.call (.ref fa) ⟨[.ref a], []⟩) (fun r s' => r = .ok (.ret (.bool true)) /\ OldK s₁.heap s'.heap /\ s'.os = s₁.os /\ AllBare s'.gens) s₁) :
    WalkO q loose XP YP l.row.toRowW d [] (fun f vs => PySem.call f vs) := by
  intro w s₀ s₁ mg mb G Y fa o pm cd doc dV kV ho hd hcd hD hmg hg args vals as hpre hlay hrd hwl hlo
  obtain rfl : dV = .none := Dflts.none hD hdf
  obtain rfl : kV = .none := Dflts.noKw hD
  obtain ⟨a, vs, ns, rfl, rfl, hobj, hints, hlen⟩ := script_of hn hpre hwl
  refine enter_call (codeAny_mono (call w s₀ s₁ mg mb fa o pm cd doc a vs ns G Y ho (fd_plain hd) hcd hmg hobj hints hlen hg) fun r s' hq => ?_)
  obtain ⟨rfl, h2, h3, h4⟩ := hq
  exact ⟨.inl ⟨.bool true, .bool true, [], rfl, fun _ => rfl, .bool true, post_true l _, fun _ => ⟨List.Pairwise.nil, fun _ hm => (nomatch hm)⟩⟩, h2, h3, h4⟩
section
variable {prog : Program} {w : World} {A : Around} {E : Value -> Shared -> Prop} {s : Shared} {K : Frag}
end
end Att
namespace L2
open PySem PySem.Spec PyProof.Rows
theorem vals_ints : ∀ {vs : List Value} {ns : List Int}, IntsAre vs ns -> Vals (ns.map V.int) vs
  | _, _, .nil => .nil
  | _, _, .cons n t h => .cons ⟨t, rfl⟩ (vals_ints h)
def Only (H : Hp) : Prop := ∀ b, H b = none \/ ∃ o xs, H b = some (.frz o (.lst xs))
theorem law_call {P : Program} {w : World} {K : PySem.W.Frag} {mg mb : Str -> Option Value} {CX : CXT} {k : Nat} {fa a : Addr} {fd : FuncData} {x : Str} {sp : Sp} {s₁ : Shared} {vs : List Value} {ns : List Int}
    (KX : K.In s₁.heap) (hns : s₁.heap.Ns mainGlobals mg) (hb : s₁.heap.Ns builtinsNs mb) (hbb : ∀ x : Str, x ≠ "__name__" -> mb x = bootBuiltins x) (hlim : s₁.heap.NoLimit) (hg : s₁.gens = #[])
    (ha : s₁.heap.get? a = some { cls := .type "list", data := .seq vs.toArray }) (hi : IntsAre vs ns) (hl : ns.length <= sizeLine) (hr : Room k callerA)
    (F : ∀ base : Heap, K.In base -> base.Ns mainGlobals mg -> FnOk P w K mg base CX k fa fd [x] sp) (hbind : ∀ (s : Shared) (u : Value), BindsTo s fd ⟨[u], []⟩ [(x, u)])
    (hsp : ∀ H : Hp, Only H -> SqL K H a (ns.map V.int) -> sp [.ref a] H (fun v _ => v = .bl true) fun _ _ _ => False)
    (hCX : ∀ H e s', CX [] H s₁ (fun _ _ _ => False) e s' -> False) :
    codeAny (model P w) callerA (.call (.ref fa) ⟨[.ref a], []⟩) (fun r s' => r = .ok (.ret (.bool true)) /\ OldK s₁.heap s'.heap /\ s'.os = s₁.os /\ AllBare s'.gens) s₁ := by
  have rv := vals_ints hi
  have lenV := hi.length
  have core : ∀ H : Hp, Only H -> SqL K H a (ns.map V.int) -> HOk P w H s₁.heap -> (∀ b, H b ≠ none -> b = a) -> (H a ≠ none -> K.lookup a = none) ->
      codeAny (model P w) callerA (.call (.ref fa) ⟨[.ref a], []⟩) (fun r s' => r = .ok (.ret (.bool true)) /\ OldK s₁.heap s'.heap /\ s'.os = s₁.os /\ AllBare s'.gens) s₁ := by
    intro H hO hS hok hA hK
    have base_of : ∀ {b : Addr} {o : Obj}, s₁.heap.get? b = some o -> H b = none -> (hidT s₁.heap H).get? b = some o := fun e n => hidT_get e n
    have noA : ∀ {b : Addr} {o : Obj} {es : Array DictEntry} {ep : Nat}, s₁.heap.get? b = some o -> o.data = .dict es ep -> H b = none := fun {b o es ep} e d => by
      cases q : H b with
      | none => rfl
      | some u =>
        have e' : b = a := hA b (by rw [q]; simp)
        subst e'
        rw [ha] at e; cases e
        have d' : Data.seq vs.toArray _ = Data.dict es ep := d
        cases d'
    have nsK : ∀ {b : Addr} {m : Str -> Option Value}, s₁.heap.Ns b m -> (hidT s₁.heap H).Ns b m := fun {b m} ⟨o, es, ep, e, d, r⟩ => ⟨o, es, ep, base_of e (noA e d), d, r⟩
    have hKb : K.In (hidT s₁.heap H) := fun b o e => base_of (KX b o e) (by
      cases q : H b with
      | none => rfl
      | some u =>
        have e' : b = a := hA b (by rw [q]; simp)
        subst e'
        rw [hK (by rw [q]; simp)] at e; cases e)
    have hM : Mod K mg (hidT s₁.heap H) := ⟨hKb, nsK hns, ⟨mb, nsK hb, hbb⟩, let ⟨mc, h1, h2⟩ := hlim; ⟨mc, nsK h1, h2⟩⟩
    have e0 : Env0 P w K mg (hidT s₁.heap H) callerA [] s₁ H := ⟨rfl, hM, fun b o e => of_hidT e, Nat.le_of_eq (hidT_size _ _), trivial, fun b hb => absurd (show b ∈ ([] : List Addr) from hb) (by simp), hok, .of_eq hg⟩
    refine codeAny_mono ((F _ hKb (nsK hns)).run callerA [] s₁ H ⟨[.ref a], []⟩ [.ref a] [.ref a] _ _ hr e0 (hbind s₁ (.ref a)) (.cons rfl .nil) (hsp H hO hS)) fun r s' h => ?_
    cases r with
    | error e => exact (hCX H e s' h).elim
    | ok fl =>
      cases fl with
      | next => exact False.elim h
      | brk => exact False.elim h
      | cont => exact False.elim h
      | ret u =>
        obtain ⟨v, H', os, bare, un, hok', r', q⟩ := h
        have q' : v = .bl true := q
        subst q'
        obtain rfl : u = Value.bool true := r'
        refine ⟨rfl, OldK.of_keep fun b o e => ?_, os, bare⟩
        cases q : H b with
        | none => exact un.keep b o e q (by intro z; exact absurd (show b ∈ ([] : List Addr) from z) (by simp)) (by simp)
        | some u =>
          rcases hO b with z | ⟨ob, xs, z⟩
          · rw [q] at z; cases z
          · have z2 := un.frzs b ob _ z
            obtain ⟨e1, _⟩ := hok b _ z
            obtain ⟨e2, _⟩ := hok' b _ z2
            rw [e] at e1; cases e1
            exact e2
  cases hk : K.lookup a with
  | some o =>
    have e := KX a o hk
    rw [ha] at e
    cases e
    refine core (fun _ => none) (fun _ => .inl rfl) (.inr ⟨_, vs.toArray, _, hk, rfl, rfl, rfl, by rw [List.size_toArray, lenV]; exact hl, by simpa using rv⟩) (fun b u z => by have z' : (none : Option HO) = some u := z; cases z') (fun b z => absurd rfl z) fun z => absurd rfl z
  | none =>
    refine core (fun b => if b = a then some (.frz { cls := .type "list", data := .seq vs.toArray } (.lst (ns.map V.int))) else none) (fun b => ?_) (.inl (.inr ⟨{ cls := .type "list", data := .seq vs.toArray }, if_pos rfl⟩)) (fun b u z => ?_) (fun b z => ?_) fun _ => hk
    · by_cases hb : b = a
      · exact .inr ⟨_, _, if_pos hb⟩
      · exact .inl (if_neg hb)
    · by_cases hb : b = a
      · have z' := (if_pos hb).symm.trans z
        cases z'
        subst hb
        exact ⟨ha, by rw [List.length_map]; exact hl, vs, _, rv, ha⟩
      · have z' := (if_neg hb).symm.trans z
        cases z'
    · by_cases hb : b = a
      · exact hb
      · exact absurd (if_neg hb) z
abbrev KOf {K : PySem.W.Frag} {h : Heap} (_ : K.In h) : PySem.W.Frag := K
theorem walk_of {l : PySem.W.OpenLaw} {n k : Nat} {q : Program} {loose : List Str} {XP : (Str -> Option Value) -> Heap -> Prop} {YP : World -> Heap -> Prop} {d : DefRec} {K : Params -> PySem.W.Frag} {CX : World -> CXT} {sp : World -> Sp} {x : Str}
    (hn : l.most = some n) (hn2 : n <= sizeLine) (hdf : d.params.defaults = []) (hr : Room k callerA)
    (hY : ∀ (w : World) (h : Heap), YP w h -> (K w.params).In h)
    (F : ∀ (w : World) (mg : Str -> Option Value) (fa : Addr) (h : Heap), (K w.params).In h -> h.Ns mainGlobals mg -> mg d.name = some (.ref fa) ->
      ∃ fd : FuncData, (∀ (s : Shared) (u : Value), BindsTo s fd ⟨[u], []⟩ [(x, u)]) /\
        ∀ base : Heap, (K w.params).In base -> base.Ns mainGlobals mg -> FnOk l.prog w (K w.params) mg base (CX w) k fa fd [x] (sp w))
    (hsp : ∀ (w : World) (H : Hp) (a : Addr) (ns : List Int), ns.length <= n -> Only H -> SqL (K w.params) H a (ns.map V.int) -> sp w [.ref a] H (fun v _ => v = .bl true) fun _ _ _ => False)
    (hCX : ∀ (w : World) (H : Hp) (s : Shared) (e : Value) (s' : Shared), CX w [] H s (fun _ _ _ => False) e s' -> False) :
    PySem.W.WalkO q loose XP YP l.row.toRowW d [] (fun f vs => PySem.call f vs) := by
  refine Att.attach_call hn hdf fun w s₀ s₁ mg mb fa o pm cd doc a vs ns G Y ho hd hcd hmg hobj hints hlen hg => ?_
  have KX := hY w _ Y
  obtain ⟨fd, hb, hF⟩ := F w mg fa _ KX G.T.g hmg
  exact law_call KX G.T.g G.T.b G.T.builtins G.T.nolimit hg hobj hints (Nat.le_trans hlen hn2) hr hF hb (fun H hO hS => hsp w H a ns hlen hO hS) fun H e s' => hCX w H s₁ e s'
end L2
/- THE LAST THEOREM (shape; LID, My.* are yours):
   My.Adr: a structure of the addresses that your layer names (classes, functions); My.Txt K t: a structure (Prop) of the equations over K;
   My.txt_mk : {K} {implicit addresses ..} (e1 : nsIn K mainGlobals "law" = some (some (.ref f))) (e2 : K.lookup f = some ⟨oc, od, .func (fnOf "law" "law" params body scope dV kV doc pm an cdv ct), sl⟩) (e3 : codeIn K cdv "law" = true) .. : ∃ t, My.Txt K t
set_option maxRecDepth 100000 in
set_option maxHeartbeats 0 in
theorem PySem.Challenge.cw_LID_holds : PySem.Challenge.rw_LID.Holds := by
  w_on; o_law; k_head; (case hw => w_witness2)
  k_fill
  refine L2.walk_of (l := PySem.Challenge.rw_LID) (n := 63) (k := 40) (x := "script") (CX := fun w => ..) (sp := fun _ => My.sp_law) rfl (by decide) rfl ⟨rfl, by decide, by decide⟩ (fun w h Y => PySem.W.kIn_of Y) ?F ?S ?C
  case F =>
    intro w mg fa h KX G hmg
    have T : ∃ t, My.Txt (L2.KOf KX) t := by
      dsimp only [L2.KOf]                          -- K must stand as «<heap const> w.params» for k_is
      refine' My.txt_mk ?e1 ?e2 ?e3 ..
      (case e1 => PySem.W.k_is)                    -- in the order: a name -> its address -> its object -> its parts
      (case e2 => PySem.W.k_is)
      ..
    obtain ⟨t, T⟩ := T
    have e0 := hmg.symm.trans (PySem.W.mg_of KX G T.law)
    cases e0                                       -- fa is the law's own address
    exact ⟨_, fun s u => .of_eq rfl, fun base kb nb => My.law_fn T kb nb⟩     -- if «.of_eq rfl» comes too early: refine' ⟨_, ?b, fun base kb nb => My.law_fn T kb nb⟩; exact fun s u => .of_eq rfl
  case S => exact fun w H a ns hl hO hS => ..
  case C => exact ..
(the tactic k_is has no namespace: write k_is) -/
namespace L2
open PySem PySem.Spec PyProof.Rows
def defArgs (s : Stmt) : Arguments := match s with
  | .FunctionDef _ a _ _ _ _ _ _ _ _ => a
  | _ => { posonlyargs := [], args := [], vararg := none, kwonlyargs := [], kw_defaults := [], kwarg := none, defaults := [] }
def defBody (s : Stmt) : List Stmt := match s with
  | .FunctionDef _ _ b _ _ _ _ _ _ _ => b
  | _ => []
def defScope (s : Stmt) : Scope := match s with
  | .FunctionDef _ _ _ _ _ _ sc _ _ _ => sc
  | _ => { kind := .function, names := [], isGenerator := false, isCoroutine := false }
abbrev CX0 : CXT := fun _ _ _ _ _ _ => False
abbrev E0 : XK := fun _ _ _ => False
theorem pass0 {X : Cx} : Passes CX0 X E0 := fun _ _ _ _ _ _ _ h => h.elim
structure Fun (K : PySem.W.Frag) (x qual : Str) (st : Stmt) (f : Addr) (fd : FuncData) : Prop where
  ex : ∃ (oc : Value) (od : Option Addr) (kV doc pm : Value) (an : Option Addr) (cdv ct : Value) (osl : Array (Option Value)),
    fd = PySem.W.fnOf x qual (defArgs st) (defBody st) (defScope st) .none kV doc pm an cdv ct /\ K.lookup f = some ⟨oc, od, .func fd, osl⟩ /\ PySem.W.codeIn K cdv qual = true
  kp : PySem.W.keepIn K (.ref f) = true
section
variable {P : Program} {w : World} {K : PySem.W.Frag} {mg : Str -> Option Value} {base : Heap}
theorem Fun.ok {x qual : Str} {st : Stmt} {f : Addr} {fd : FuncData} {N ps : List Str} {k : Nat} {sp : Sp} (F : Fun K x qual st f fd) (S : FnScope N ps (defScope st)) (len : ∀ vs H Q E, sp vs H Q E -> vs.length = ps.length)
    (hbody : ∀ (cdv : Value) (A : Around) (outer : List Env) (s : Shared) (H : Hp) (vs : List V) (Q : VK) (E : XK), Room k (A.deeper (envOfC qual (defScope st) s.heap.objs.size f cdv)) -> sp vs H Q E ->
      ∃ t, PSs (cxOf CX0 P w K mg base N qual (defScope st) f cdv A outer s H E).nox (defBody st) t /\ t { nx := fun _ H' => Q .non H', rt := Q } (start N vs) H) : FnOk P w K mg base CX0 (k + 1) f fd ps sp := by
  obtain ⟨oc, od, kV, doc, pm, an, cdv, ct, osl, rfl, lk, hcd⟩ := F.ex
  refine fn_of lk hcd S len fun A outer s H vs Q E hr hsp => ?_
  obtain ⟨t, h, q⟩ := hbody cdv A outer s H vs Q E hr hsp
  exact ⟨t, h.nox, q⟩
theorem Fun.binds {x qual : Str} {st : Stmt} {f : Addr} {fd : FuncData} {ps : List Str} (F : Fun K x qual st f fd)
    (h : ∀ (kV doc pm : Value) (an : Option Addr) (cdv ct : Value) (us : List Value), us.length = ps.length -> bindArgs (PySem.W.fnOf x qual (defArgs st) (defBody st) (defScope st) .none kV doc pm an cdv ct) ⟨us, []⟩ = pure (ps.zip us)) : Binds K fd ps [] := by
  obtain ⟨oc, od, kV, doc, pm, an, cdv, ct, osl, rfl, lk, hcd⟩ := F.ex
  exact .all (h kV doc pm an cdv ct)
theorem fun_mk {x qual : Str} {st : Stmt} {f : Addr} {oc : Value} {od an : Option Addr} {osl : Array (Option Value)} {kV doc pm cdv ct : Value} (l : K.lookup f = some ⟨oc, od, .func (PySem.W.fnOf x qual (defArgs st) (defBody st) (defScope st) .none kV doc pm an cdv ct), osl⟩)
    (c : PySem.W.codeIn K cdv qual = true) (k : PySem.W.keepIn K (.ref f) = true) : Fun K x qual st f (PySem.W.fnOf x qual (defArgs st) (defBody st) (defScope st) .none kV doc pm an cdv ct) := ⟨⟨oc, od, kV, doc, pm, an, cdv, ct, osl, rfl, l, c⟩, k⟩
end
section
variable {X : Cx}
theorem pv (i : Nat) {x : Str} {pos : Pos} (hN : X.N[i]? = some x := by rfl) (hv : Vis X.env.scope x := by first | exact Or.inl rfl | exact Or.inr (Or.inl rfl) | exact Or.inr (Or.inr rfl)) (hd : (x == ("__debug__" : Str)) = false := by decide)
    (hcd : (x == ("__classdict__" : Str)) = false := by decide) : PE X (.Name x pos) (tVar i) := pe_var hN hv hd hcd
end
theorem iteF {A B : Prop} (h : B) : if false = true then A else B := by
  rw [if_neg Bool.false_ne_true]
  exact h
theorem iteT {A B : Prop} (h : A) : if true = true then A else B := by
  rw [if_pos rfl]
  exact h
theorem ite2 {c A B : Prop} [Decidable c] (h1 : c -> A) (h2 : ¬ c -> B) : if c then A else B := by
  by_cases h : c
  · rw [if_pos h]
    exact h1 h
  · rw [if_neg h]
    exact h2 h
theorem iteNS {c A B : Prop} [Decidable c] (hc : c) (h : B) : if (!decide c) = true then A else B := by
  rw [decide_eq_true hc]
  exact iteF h
def Same (H H' : Hp) : Prop := ∀ b o, H b = some o -> H' b = some o
theorem Same.refl (H : Hp) : Same H H := fun _ _ h => h
theorem Same.trans {H H1 H2 : Hp} (a : Same H H1) (b : Same H1 H2) : Same H H2 := fun c o h => b c o (a c o h)
theorem Same.seq {K : PySem.W.Frag} {H H' : Hp} {a : Addr} {xs : List V} (e : Same H H') (h : SqL K H a xs) : SqL K H' a xs := by
  rcases h with (h | ⟨o, h⟩) | h
  · exact .inl (.inl (e _ _ h))
  · exact .inl (.inr ⟨o, e _ _ h⟩)
  · exact .inr h
def PIfs (X : Cx) (ifs : List Expr) (t : TT) : Prop :=
  ∀ (pins : List (Addr × Obj)) (s : Shared) (σ : St) (H : Hp) (Q : Bool -> Hp -> Prop), Inv X pins σ H s -> t σ H Q ->
    wpAny (model X.prog X.w) X.A (forIn ifs true fun c r => if r = true then do
      let ok <- isTrue c X.env (eval c X.env)
      pure (ForInStep.yield ok) else pure (ForInStep.yield r)) (TP X pins σ Q) X.xe s
def tYes : TT := fun _ H Q => Q true H
theorem pifs_nil {X : Cx} : PIfs X [] tYes := fun _ _ _ H _ I h => wpAny_tests_nil ⟨H, I, h⟩
theorem pifs_one {X : Cx} {c : Expr} {t : TT} (h : PT X c t) : PIfs X [c] t := fun pins s σ H Q I hw => wpAny_tests_one (h pins s σ H Q I hw)
def clOf (env : Env) : List (Str × NameKind) -> List (Str × Addr) -> List (Str × Addr)
  | [], cs => cs
  | (n, k) :: r, cs => clOf env r (if (k == NameKind.free) = true then (n, (env.cells.lookup n).getD 0) :: cs else cs)
theorem clOf_loop {env : Env} : ∀ (names : List (Str × NameKind)) (cs : List (Str × Addr)), (∀ x ∈ names, x.2 = .free -> ∃ c, env.cells.lookup x.1 = some c) ->
    (forIn names cs fun (x : Str × NameKind) (r : List (Str × Addr)) => (if (x.2 == NameKind.free) = true then do
      let a <- cellOf env x.1
      pure (ForInStep.yield ((x.1, a) :: r)) else pure (ForInStep.yield r) : Sem (ForInStep (List (Str × Addr))))) = pure (clOf env names cs)
  | [], cs, _ => rfl
  | (n, k) :: r, cs, h => by
    rw [List.forIn_cons]
    by_cases hk : (k == NameKind.free) = true
    · obtain ⟨c, hc⟩ := h (n, k) List.mem_cons_self (by simpa using hk)
      have hc' : env.cells.lookup n = some c := hc
      have e1 : cellOf env n = pure c := by unfold cellOf; rw [hc']
      simp only [hk, if_true, e1, pure_bind]
      rw [clOf_loop r _ fun x hx => h x (List.mem_cons_of_mem _ hx)]
      simp [clOf, hk, hc']
    · simp only [hk, pure_bind]
      rw [if_neg (by simp), pure_bind]
      dsimp only
      rw [clOf_loop r _ fun x hx => h x (List.mem_cons_of_mem _ hx)]
      simp [clOf, hk]
theorem closure_is {scope : Scope} {env : Env} (h : ∀ x ∈ scope.names, x.2 = .free -> ∃ c, env.cells.lookup x.1 = some c) : closureFor scope env = pure (clOf env scope.names []) := by
  have e := clOf_loop scope.names [] h
  simp only [closureFor]
  first
    | (rw [e]; rfl)
    | (refine Eq.trans (congrArg (fun t => t >>= _) e) ?_; rfl)
    | (simp only [e]; rfl)
theorem clOf_get {env : Env} {x : Str} {c : Addr} : ∀ (names : List (Str × NameKind)) (cs : List (Str × Addr)), (∀ y ∈ names, y.2 = .free -> ∃ d, env.cells.lookup y.1 = some d) ->
    (clOf env names cs).lookup x = some c -> cs.lookup x = some c \/ env.cells.lookup x = some c
  | [], cs, _, e => .inl e
  | (n, k) :: r, cs, h, e => by
    have e' : (clOf env r (if (k == NameKind.free) = true then (n, (env.cells.lookup n).getD 0) :: cs else cs)).lookup x = some c := e
    rcases clOf_get r _ (fun y hy => h y (List.mem_cons_of_mem _ hy)) e' with q | q
    · by_cases hk : (k == NameKind.free) = true
      · rw [if_pos hk] at q
        obtain ⟨d, hd⟩ := h (n, k) List.mem_cons_self (by simpa using hk)
        have hd' : env.cells.lookup n = some d := hd
        rw [List.lookup_cons] at q
        by_cases hx : (x == n) = true
        · rw [hx] at q
          have ex : x = n := by simpa using hx
          subst ex
          rw [hd'] at q
          simp at q
          exact .inr (by rw [hd', q])
        · simp only [hx] at q
          exact .inl q
      · rw [if_neg hk] at q
        exact .inl q
    · exact .inr q
theorem clOf_keep {env : Env} {x : Str} : ∀ (names : List (Str × NameKind)) (cs : List (Str × Addr)), (∃ c, cs.lookup x = some c) -> ∃ c, (clOf env names cs).lookup x = some c
  | [], cs, h => h
  | (n, k) :: r, cs, h => by
    refine clOf_keep r _ ?_
    by_cases hk : (k == NameKind.free) = true
    · rw [if_pos hk, List.lookup_cons]
      cases hx : x == n with
      | true => exact ⟨_, rfl⟩
      | false => exact h
    · rw [if_neg hk]; exact h
theorem clOf_has {env : Env} {x : Str} : ∀ (names : List (Str × NameKind)) (cs : List (Str × Addr)), (x, NameKind.free) ∈ names -> ∃ c, (clOf env names cs).lookup x = some c
  | (n, k) :: r, cs, h => by
    show ∃ c, (clOf env r (if (k == NameKind.free) = true then (n, (env.cells.lookup n).getD 0) :: cs else cs)).lookup x = some c
    rcases List.mem_cons.mp h with e | e
    · cases e
      refine clOf_keep r _ ⟨(env.cells.lookup x).getD 0, ?_⟩
      rw [if_pos (by rfl), List.lookup_cons]
      simp
    · exact clOf_has r _ e
def relN (env : Env) (names : List (Str × NameKind)) : List (Str × NameKind) :=
  names.map fun (n, k) => if (k == NameKind.free && env.scope.kind == .function && env.kindOf n == some .cell) then (n, NameKind.cell) else (n, k)
theorem relN_get {env : Env} {x : Str} {k' : NameKind} : ∀ (names : List (Str × NameKind)), (relN env names).lookup x = some k' -> ∃ k, names.lookup x = some k /\ (k' = k \/ (k = .free /\ k' = .cell))
  | [], h => by simp [relN] at h
  | (n, k) :: r, h => by
    have ih := relN_get (env := env) (x := x) (k' := k') r
    have h' : ((if (k == NameKind.free && env.scope.kind == .function && env.kindOf n == some .cell) = true then (n, NameKind.cell) else (n, k)) :: relN env r).lookup x = some k' := h
    by_cases hc : (k == NameKind.free && env.scope.kind == .function && env.kindOf n == some .cell) = true
    · rw [if_pos hc, List.lookup_cons] at h'
      rw [List.lookup_cons]
      cases hx : x == n with
      | true =>
        rw [hx] at h'
        have h2 : NameKind.cell = k' := Option.some.inj h'
        have hk : k = .free := by
          cases k <;> first | rfl | (simp at hc)
        exact ⟨k, rfl, .inr ⟨hk, h2.symm⟩⟩
      | false =>
        rw [hx] at h'
        exact ih h'
    · rw [if_neg hc, List.lookup_cons] at h'
      rw [List.lookup_cons]
      cases hx : x == n with
      | true =>
        rw [hx] at h'
        exact ⟨k, rfl, .inl (Option.some.inj h').symm⟩
      | false =>
        rw [hx] at h'
        exact ih h'
def cxComp (X : Cx) (scope : Scope) (N' : List Str) (fp : List Addr) (C : Addr) (s : Shared) (H : Hp) : Cx where
  prog := X.prog
  w := X.w
  K := X.K
  mg := X.mg
  base := X.base
  A := X.A
  N := N'
  s₀ := s
  H₀ := H
  env := compEnvC scope (clOf X.env scope.names []) C X.env
  outer := X.stack
  stack := X.stack
  ex := fp
  fn := fun _ => false
  calm := true
  pn := X.pn
  xe := fun _ _ => False
def stComp (fr : List (Option Nat)) (σ : St) : St := fr.map fun o => o.bind fun j => (σ[j]?).join
def frOk (N : List Str) (kinds names : List (Str × NameKind)) (N' : List Str) (fr : List (Option Nat)) : Bool :=
  (N'.length == fr.length) && (N'.zip fr).all fun p => match p.2 with
    | none => true
    | some j => N[j]? == some p.1 && names.lookup p.1 == some NameKind.free && (kinds.lookup p.1 == some NameKind.cell || kinds.lookup p.1 == some NameKind.free)
theorem frOk_at {N : List Str} {kinds names : List (Str × NameKind)} {N' : List Str} {fr : List (Option Nat)} (h : frOk N kinds names N' fr = true) {i j : Nat} {x : Str} (h1 : N'[i]? = some x) (h2 : fr[i]? = some (some j)) :
    N[j]? = some x /\ names.lookup x = some NameKind.free /\ (kinds.lookup x = some NameKind.cell \/ kinds.lookup x = some NameKind.free) := by
  unfold frOk at h
  rw [Bool.and_eq_true, List.all_eq_true] at h
  have hm : (x, some j) ∈ N'.zip fr := by
    refine List.mem_of_getElem? (i := i) ?_
    rw [List.getElem?_zip_eq_some]
    exact ⟨h1, h2⟩
  have q := h.2 _ hm
  simp only [Bool.and_eq_true, Bool.or_eq_true, beq_iff_eq] at q
  exact ⟨q.1.1, q.1.2, q.2⟩
structure CompOk (X : Cx) (scope : Scope) (N' : List Str) (fr : List (Option Nat)) : Prop where
  kind : scope.kind = .function
  cells : ∀ y ∈ scope.names, y.2 ≠ .cell
  names : ∀ y ∈ scope.names, y.2 = .local -> scope.names.lookup y.1 = some .local
  frees : ∀ y ∈ scope.names, y.2 = .free -> X.env.kindOf y.1 = some .cell \/ X.env.kindOf y.1 = some .free
  fr : frOk X.N X.env.scope.names scope.names N' fr = true
section
variable {X : Cx} {scope : Scope} {N' : List Str} {fr : List (Option Nat)} {pins : List (Addr × Obj)} {σ : St} {H : Hp} {s : Shared} {fp : List Addr}
theorem CompOk.has (c : CompOk X scope N' fr) (ok : X.Ok) : ∀ y ∈ scope.names, y.2 = .free -> ∃ d, X.env.cells.lookup y.1 = some d := fun y hy h => ok.has _ (c.frees y hy h)
theorem inv_comp {C : Addr} {h' : Heap} {tk : Nat} {m : Str -> Option Value} (c : CompOk X scope N' fr) (hc : X.calm = true) (I : Inv X pins σ H s) (hf : ∀ b ∈ fp, FpOk X pins H b) (hlt : ∀ b ∈ fp, b < s.heap.objs.size)
    (old : ∀ b o, s.heap.get? b = some o -> h'.get? b = some o) (hC : s.heap.objs.size <= C) (hn : h'.Ns C m) :
    Inv (cxComp X scope N' fp C s H) pins (stComp fr σ) H { s with heap := h', toks := tk } := by
  have get : ∀ x d, (clOf X.env scope.names []).lookup x = some d -> X.env.cells.lookup x = some d := fun x d e => by
    rcases clOf_get scope.names [] (c.has I.ok) e with q | q
    · simp at q
    · exact q
  have old2 : ∀ b, b < s.heap.objs.size -> b ≠ C := fun b hb => Nat.ne_of_lt (Nat.lt_of_lt_of_le hb hC)
  have hl : (stComp fr σ).length = N'.length := by
    have q := c.fr
    unfold frOk at q
    rw [Bool.and_eq_true] at q
    have q1 : N'.length = fr.length := by simpa using q.1
    rw [stComp, List.length_map, q1]
  refine ⟨⟨I.ok.mod, c.kind, I.ok.glob, I.ok.blt, hC, ?_, ?_, (fun _ _ z => nomatch z), fun _ => I.ok.hd hc, I.ok.frames, .inl rfl, ?_, I.bs, Nat.le_trans I.ok.bsz I.sz, ?_, ?_, I.stack, I.stkFree⟩, rfl, I.bare, Un.kept old, ⟨m, hn, ?_⟩, ?_, I.hok.fresh hC, ?_, ?_, I.hok.kept old, hl⟩
  · exact fun x y d e1 e2 => I.ok.inj x y d (get x d e1) (get y d e2)
  · intro x hx
    have hx' : (relN X.env scope.names).lookup x = some .cell \/ (relN X.env scope.names).lookup x = some .free := hx
    have fin : scope.names.lookup x = some .free -> ∃ d, (clOf X.env scope.names []).lookup x = some d := fun e => clOf_has scope.names [] (PySem.mem_of_lookup e)
    rcases hx' with q | q
    · obtain ⟨k, e, z⟩ := relN_get scope.names q
      rcases z with z | ⟨z, _⟩
      · subst z
        exact absurd rfl (c.cells _ (PySem.mem_of_lookup e))
      · subst z
        exact fin e
    · obtain ⟨k, e, z⟩ := relN_get scope.names q
      rcases z with z | ⟨_, z⟩
      · subst z
        exact fin e
      · cases z
  · exact fun b hb => ⟨old2 b (hlt b hb), fun x d e => (hf b hb).2.2.2.2.1 x d (get x d e)⟩
  · intro b o e hb
    rcases (hf b hb).2.2.2.1 with z | z
    · exact I.ok.noex b o e z
    · exact absurd (Nat.lt_of_lt_of_le (Heap.lt_size e) (Nat.le_trans I.ok.bsz z)) (Nat.lt_irrefl _)
  · intro b hb hs
    rcases List.mem_cons.mp (I.stkSub b hs) with z | z
    · exact (hf b hb).2.1 z
    · exact (hf b hb).2.2.1 z
  · intro i x v e1 e2 e3
    have e2' : (fr.map fun o => o.bind fun j => (σ[j]?).join)[i]? = some (some v) := e2
    rw [List.getElem?_map] at e2'
    cases q : fr[i]? with
    | none => rw [q] at e2'; cases e2'
    | some o =>
      rw [q] at e2'
      have e3' : (o.bind fun j => (σ[j]?).join) = some v := Option.some.inj e2'
      cases o with
      | none => cases e3'
      | some j =>
        have e4 : (σ[j]?).join = some v := e3'
        have e5 : σ[j]? = some (some v) := by
          cases z : σ[j]? with
          | none => rw [z] at e4; cases e4
          | some w => rw [z] at e4; exact congrArg some e4
        obtain ⟨f1, f2, f3⟩ := frOk_at c.fr e1 q
        obtain ⟨m0, hn0, hl0⟩ := I.loc
        have vis : Vis X.env.scope x := f3.elim (fun z => .inr (.inl z)) fun z => .inr (.inr z)
        obtain ⟨u, r, look⟩ := hl0 j x v f1 e5 vis
        refine ⟨u, r, ?_⟩
        rcases look with ⟨k, _⟩ | ⟨k, d, hd, hcell⟩
        · have k' : X.env.scope.names.lookup x = some .local := k
          rcases f3 with z | z <;> (rw [k'] at z; cases z)
        · refine .inr ⟨?_, d, ?_, ?_⟩
          · have e3'' : (relN X.env scope.names).lookup x = some .local \/ (relN X.env scope.names).lookup x = some .cell \/ (relN X.env scope.names).lookup x = some .free := e3
            rcases e3'' with z | z | z
            · obtain ⟨k2, e, z2⟩ := relN_get scope.names z
              rw [f2] at e
              cases e
              rcases z2 with z2 | ⟨_, z2⟩ <;> cases z2
            · exact .inl z
            · exact .inr z
          · obtain ⟨d', e⟩ := clOf_has (env := X.env) scope.names [] (PySem.mem_of_lookup f2)
            have := get x d' e
            rw [hd] at this
            cases this
            exact e
          · obtain ⟨ob, h1, h2⟩ := hcell
            exact ⟨ob, old _ _ h1, h2⟩
  · intro x d e
    obtain ⟨v, ob, h1, h2⟩ := I.cell x d (get x d e)
    exact ⟨v, ob, old _ _ h1, h2⟩
  · exact fun x d e => I.freeC x d (get x d e)
  · intro p hp
    obtain ⟨e, n, ne, nf, dd⟩ := I.pin p hp
    refine ⟨old _ _ e, n, old2 _ (Heap.lt_size e), fun hs => ?_, dd⟩
    rcases List.mem_cons.mp (I.stkSub p.1 hs) with z | z
    · exact ne z
    · exact nf z
end
section
variable {prog : Program} {w : World} {A : Around} {R : Result -> Shared -> Prop} {s : Shared}
theorem comp_loop {elt tg iter : Expr} {ifs : List Expr} {scope : Scope} {pos : Pos} {it acc : Value} {env : Env} (J : Nat -> Shared -> Prop)
    (turn : ∀ n s, J n s -> wpAny (model prog w) A (pyNext it) (fun r s1 => match r with
      | none => R (.ok .next) s1
      | some v => wpAny (model prog w) A (letOwnedTupleGo tg it v) (fun _ s2 => wpAny (model prog w) A (assign tg env v) (fun _ s3 =>
          wpAny (model prog w) A (forIn ifs true fun c r => if r = true then do
            let ok <- isTrue c env (eval c env)
            pure (ForInStep.yield ok) else pure (ForInStep.yield r)) (fun ok s4 =>
              if ok = true then wpAny (model prog w) A (eval elt env) (fun x s5 =>
                wpAny (model prog w) A (call (.builtin "list.append") [acc, x]) (fun _ s6 => ∃ m, m < n /\ J m s6) (fun _ _ => False) s5) (fun _ _ => False) s4
              else ∃ m, m < n /\ J m s4) (fun _ _ => False) s3) (fun _ _ => False) s2) (fun _ _ => False) s1) (fun _ _ => False) s)
    (n : Nat) (h : J n s) : codeAny (model prog w) A (.compLoop (.ListComp elt [⟨tg, iter, ifs, 0⟩] scope pos) 0 it acc env) R s := by
  refine codeAny_loop rfl J (fun k s1 hJ => ?_) n h
  show wpAny _ A ((compTurn (.ListComp elt [⟨tg, iter, ifs, 0⟩] scope pos) 0 it acc env).onRaise (fun y => do noteFrame y env; theTreesLotGoes y)) _ _ s1
  refine wpAny_noted (wpAny_mono (E := fun _ _ => False) ?_ (fun _ _ q => q) fun _ _ z => z.elim)
  rw [compTurn_list]
  refine wpAny_bind (wpAny_standAt (wpAny_bind (thn (turn k s1 hJ) fun r s2 h2 => ?_)))
  cases r with
  | none => exact wpAny_pure h2
  | some v =>
    refine wpAny_bind (thn h2 fun _ s3 h3 => wpAny_bind (thn h3 fun _ s4 h4 => wpAny_bind (thn h4 fun ok s5 h5 => ?_)))
    cases ok with
    | false => exact wpAny_pure ⟨rfl, h5⟩
    | true =>
      refine wpAny_bind (wpAny_bind (thn h5 fun x s6 h6 => wpAny_bind (thn h6 fun _ s7 h7 => ?_)))
      exact wpAny_pure (wpAny_pure ⟨rfl, h7⟩)
end
theorem HOk.track {P : Program} {w : World} {H : Hp} {h : Heap} {a : Addr} {o : HO} (ok : HOk P w H h) (hn : H a = none) (new : ObjOk P w (upd H a o) h a o) : HOk P w (upd H a o) h := fun b u q => by
  by_cases hb : b = a
  · subst hb
    rw [upd_same] at q
    cases q
    exact new
  · rw [upd_ne hb] at q
    exact (ok b u q).stay (fun _ _ _ r => r) (fun c r => by rw [upd_ne (ne_of_none r hn)]; exact r) fun c xs r => by rw [upd_ne (ne_of_none r hn)]; exact r
def CompW (J : It) (g : TG) (tt : TT) (te : TE) (fin : List V -> Hp -> Prop) (W : Nat -> Nat -> List V -> St -> Hp -> Prop) : Prop :=
  ∀ i m ys σ H, W i m ys σ H -> (J.stop i H /\ ys.length <= sizeLine /\ fin ys H) \/ (J.go i H /\ ys.length < sizeLine /\ ∀ x H', J.yld i H x H' -> g x σ H' fun σ2 H2 => tt σ2 H2 fun b H3 =>
    if b = true then te σ2 H3 fun y H4 => ∃ m', m' < m /\ W (i + 1) m' (ys ++ [y]) σ2 H4 else ∃ m', m' < m /\ W (i + 1) m' ys σ2 H3)
section
variable {X : Cx} {scope : Scope} {N' : List Str} {fr : List (Option Nat)} {pins : List (Addr × Obj)} {σ : St} {H : Hp} {s : Shared} {fp : List Addr} {it : Addr} {tn : Nat -> Heap -> Prop} {J : It}
  {elt tg iter : Expr} {ifs : List Expr} {g : TG} {tt : TT} {te : TE} {pos : Pos} {fin : List V -> Hp -> Prop} {W : Nat -> Nat -> List V -> St -> Hp -> Prop} {RR : Value -> Addr -> Result -> Shared -> Prop} {E : Value -> Shared -> Prop}
theorem comp_block (c : CompOk X scope N' fr) (hc : X.calm = true) (I : Inv X pins σ H s) (T : Turn X.prog X.w X.K tg J fp it tn) (st : tn 0 s.heap) (hf : ∀ b ∈ fp, FpOk X pins H b)
    (hg : ∀ fp C s H, PG (cxComp X scope N' fp C s H) tg g) (ht : ∀ fp C s H, PIfs (cxComp X scope N' fp C s H) ifs tt) (he : ∀ fp C s H, PE (cxComp X scope N' fp C s H) elt te)
    (hW : CompW J g tt te fin W) (h0 : ∃ m, W 0 m [] (stComp fr σ) H)
    (hRR : ∀ D C ys H' s', Inv X pins σ (upd H' D (.lst ys)) s' -> (∃ m, s'.heap.Ns C m) -> FpOk X pins (upd H' D (.lst ys)) C -> H' D = none -> fin ys H' -> RR (.ref D) C (.ok .next) s') :
    wpAny (model X.prog X.w) X.A (newList []) (fun acc s3 => wpAny (model X.prog X.w) X.A (newFunctionEnv scope X.env.globals (clOf X.env scope.names []) [] X.env.qual none .none (some X.env)) (fun cenv s4 =>
      codeAny (model X.prog X.w) X.A (.compStart (.ListComp elt [⟨tg, iter, ifs, 0⟩] scope pos) 0 (.ref it) acc { cenv with scope := relabel scope X.env }) (RR acc cenv.locals) s4) E s3) E s := by
  refine wpAny_newObj_type (wpAny_newFunctionEnv c.cells (by intro y hy; simp at hy) (fun h1 hns hsb => ?_) c.kind)
  dsimp only at hns hsb ⊢
  generalize hH2 : s.heap.push { cls := .type "list", dict := none, data := .seq ([] : List Value).toArray } = H2 at hns hsb ⊢
  have hD0 : s.heap.objs.size < H2.objs.size := by rw [<- hH2, Heap.size_push]; exact Nat.lt_succ_self _
  generalize hDD : s.heap.objs.size = D at hD0 ⊢
  generalize hCC : H2.objs.size = C at hns hsb hD0 ⊢
  have up : ∀ b o, s.heap.get? b = some o -> h1.get? b = some o := fun b o e => hsb.extBut b o (by
    have := Heap.lt_size e
    rw [hDD] at this
    exact Nat.ne_of_lt (Nat.lt_trans this hD0)) (Heap.get?_push_of_some _ (by rw [<- hH2]; exact Heap.get?_push_of_some _ e))
  have accD : h1.get? D = some { cls := .type "list", dict := none, data := .seq ([] : List Value).toArray } := hsb.extBut _ _ (Nat.ne_of_lt hD0) (Heap.get?_push_of_some _ (by rw [<- hH2, <- hDD]; exact Heap.get?_push_size _ rfl))
  have hlt : ∀ b ∈ fp, b < s.heap.objs.size := fun b hb => by
    obtain ⟨o, e, _⟩ := T.obj 0 _ st b hb
    exact Heap.lt_size e
  have hle : s.heap.objs.size <= C := by rw [hDD]; exact Nat.le_of_lt hD0
  generalize hX' : cxComp X scope N' fp C s H = X'
  have I1 : Inv X' pins (stComp fr σ) H { s with heap := h1, toks := s.toks + ([] : List (Str × Value)).length } := by
    subst hX'
    exact inv_comp c hc I hf hlt up hle hns
  have st1 : tn 0 h1 := T.keep _ _ _ st fun b hb o e => up b o e
  have pm : X'.prog = X.prog := by subst hX'; rfl
  have wm : X'.w = X.w := by subst hX'; rfl
  have km : X'.K = X.K := by subst hX'; rfl
  have cm : X'.calm = true := by subst hX'; rfl
  have am : X'.A = X.A := by subst hX'; rfl
  have xm : X'.xe = fun _ _ => False := by subst hX'; rfl
  have lm : X'.env.locals = C := by subst hX'; rfl
  have szm : X'.s₀.heap.objs.size = s.heap.objs.size := by subst hX'; rfl
  have nm : X'.pn = X.pn := by subst hX'; rfl
  have hg' := hg fp C s H
  have ht' := ht fp C s H
  have he' := he fp C s H
  have em : X'.env = compEnvC scope (clOf X.env scope.names []) C X.env := by subst hX'; rfl
  have fsm : X'.fs = frs X.stack := by subst hX'; rfl
  have exm : X'.ex = fp := by subst hX'; rfl
  rw [hX'] at hg' ht' he'
  have ageP : ∀ p ∈ X.pn ++ pins, p.1 < D := fun p hp => by rw [<- hDD]; exact Heap.lt_size (I.pin p hp).1
  have ageC : ∀ x d, X'.env.cells.lookup x = some d -> d < D := fun x d e => by
    rw [em] at e
    rcases clOf_get scope.names [] (c.has I.ok) e with q | q
    · simp at q
    · obtain ⟨v, z⟩ := I.cell x d q
      rw [<- hDD]
      exact z.lt
  have cellF : ∀ x d, X'.env.cells.lookup x = some d -> X.env.cells.lookup x = some d := fun x d e => by
    rw [em] at e
    rcases clOf_get scope.names [] (c.has I.ok) e with q | q
    · simp at q
    · exact q
  have fps : ∀ {H' : Hp} {oD : Obj}, (∀ b ∈ fp, H' b = none) -> ∀ b ∈ fp, FpOk X' (pins ++ [(D, oD)]) H' b := fun {H' oD} hn b hb => by
    obtain ⟨_, f1, f2, f3, f4, f5⟩ := hf b hb
    have hbD : b < D := by rw [<- hDD]; exact hlt b hb
    refine ⟨hn b hb, ?_, ?_, .inl (by rw [exm]; exact hb), fun x d e => f4 x d (cellF x d e), fun p hp => ?_⟩
    · rw [lm]; exact Nat.ne_of_lt (Nat.lt_trans hbD hD0)
    · rw [fsm]
      intro hs
      rcases List.mem_cons.mp (I.stkSub b hs) with z | z
      · exact f1 z
      · exact f2 z
    · rw [nm, <- List.append_assoc] at hp
      rcases List.mem_append.mp hp with z | z
      · exact f5 p z
      · rw [List.mem_singleton.mp z]
        exact Nat.ne_of_gt hbD
  have pinD : ∀ {σ' : St} {H' : Hp} {s' : Shared} {its : List Value} {k : Nat}, Inv X' pins σ' H' s' -> s'.heap.get? D = some { cls := .type "list", data := .seq its.toArray k } -> H' D = none ->
      Inv X' (pins ++ [(D, { cls := .type "list", data := .seq its.toArray k })]) σ' H' s' := fun {σ' H' s' its k} J0 e n => J0.pins_of fun p hp => by
    rcases List.mem_append.mp hp with z | z
    · exact J0.pin p (List.mem_append_right _ z)
    · rw [List.mem_singleton.mp z]
      refine ⟨e, n, ?_, ?_, fun v q => by cases q⟩
      · show D ≠ X'.env.locals
        rw [lm]
        exact Nat.ne_of_lt hD0
      · rw [fsm]
        intro hs
        have hb := I.stkSub D hs
        rcases List.mem_cons.mp hb with z | z
        · have := I.lt
          rw [<- z, hDD] at this
          exact Nat.lt_irrefl _ this
        · exact I.nofs (Nat.le_of_eq hDD) z
  have loop : ∀ s0 : Shared, s0 = { s with heap := h1, toks := s.toks + ([] : List (Str × Value)).length } ->
      codeAny (model X.prog X.w) X.A (.compLoop (.ListComp elt [⟨tg, iter, ifs, 0⟩] scope pos) 0 (.ref it) (.ref D) X'.env) (RR (.ref D) C) s0 := by
    rintro s0 rfl
    obtain ⟨m0, w0⟩ := h0
    refine comp_loop (fun n s' => ∃ i ys σ' H' its k, Inv X' pins σ' H' s' /\ tn i s'.heap /\ (∀ b ∈ fp, H' b = none) /\ s'.heap.get? D = some { cls := .type "list", data := .seq (its : List Value).toArray k } /\ H' D = none /\ Vals ys its /\ W i n ys σ' H')
      ?_ m0 ⟨0, [], stComp fr σ, H, [], 0, I1, st1, fun b hb => (hf b hb).1, accD, I.hok.fresh (by rw [hDD]; exact Nat.le_refl _), .nil, w0⟩
    rintro n s1 ⟨i, ys, σ1, H1, its, k, J1, t1, n1, d1, nD1, v1, w1⟩
    have J1' := pinD J1 d1 nD1
    rcases hW i n ys σ1 H1 w1 with ⟨stop, hlen, fi⟩ | ⟨go, hlen, step⟩
    · have a1 := T.done X' pm wm km cm i _ s1 σ1 H1 (fun _ _ => False) J1' (fps n1) t1 stop
      rw [am] at a1
      refine thn a1 fun r s2 ⟨hr, J2⟩ => ?_
      subst hr
      obtain ⟨d2, nD2, _⟩ := J2.pin (D, _) (List.mem_append_right _ (List.mem_append_right _ List.mem_cons_self))
      have u2 : Un (frs X.stack) fp H H1 s.heap s2.heap := by
        have := J2.base
        subst hX'
        exact this
      have hok2 : HOk X.prog X.w (upd H1 D (.lst ys)) s2.heap := by
        have h2 := J2.hok
        rw [pm, wm] at h2
        exact h2.track nD1 ⟨hlen, its, k, v1, d2⟩
      have J3 : Inv X pins σ (upd H1 D (.lst ys)) s2 := by
        refine I.call' (ch := fp) (by have := J2.os; subst hX'; exact this) ⟨fun b o e n hb hx => u2.keep b o e n hb hx, fun b o e n hb hx => u2.slot b o e n hb hx, fun b o e n hx => ?_, fun b o e hx => u2.there b o e hx, fun b xs e => ?_, fun b o u e => ?_, fun b ps e => ?_⟩ hok2 J2.bare fun b hb => ?_
        · have ne : b ≠ D := Nat.ne_of_lt (by rw [<- hDD]; exact Heap.lt_size e)
          rw [upd_ne ne]
          exact u2.free b o e n hx
        · have q := u2.tups b xs e
          rw [upd_ne (ne_of_none q nD1)]
          exact q
        · have q := u2.frzs b o u e
          rw [upd_ne (ne_of_none q nD1)]
          exact q
        · obtain ⟨more, q⟩ := u2.tbls b ps e
          exact ⟨more, by rw [upd_ne (ne_of_none q nD1)]; exact q⟩
        · obtain ⟨_, f1, f2, f3, f4, f5⟩ := hf b hb
          exact ⟨f3, f1, f4, f5⟩
      have nC : (upd H1 D (.lst ys)) C = none := by
        rw [upd_ne (Nat.ne_of_gt hD0)]
        have := J2.free
        rw [lm] at this
        exact this
      refine hRR D C ys H1 s2 J3 ?_ (I.fpOk hle nC) nD1 fi
      obtain ⟨m, hm, _⟩ := J2.loc
      rw [lm] at hm
      exact ⟨m, hm⟩
    · have a1 := T.item X' pm wm km cm i _ s1 σ1 H1 (fun _ _ => False) J1' (fps n1) t1 go
      rw [am] at a1
      refine thn a1 fun r s2 ⟨u, hr, h2⟩ => ?_
      subst hr
      refine thn h2 fun _ s3 ⟨x, H3, J3, r3, y3, t3, n3⟩ => ?_
      have J3' := J3.pinned (fps n3) (T.obj _ _ t3)
      have a3 := hg' _ s3 σ1 H3 x u _ J3' r3 (step x H3 y3)
      rw [pm, wm, am, xm] at a3
      refine thn a3 fun _ s4 ⟨σ4, H4, J4, q4⟩ => ?_
      have a4 := ht' _ s4 σ4 H4 _ J4 q4
      rw [pm, wm, am, xm] at a4
      refine thn a4 fun ok s5 ⟨H5, J5, q5⟩ => ?_
      have keepT : ∀ {σ' : St} {H' : Hp} {s' : Shared}, Inv X' (pins ++ [(D, { cls := .type "list", data := .seq its.toArray k })] ++ pinsAt fp s3.heap) σ' H' s' -> tn (i + 1) s'.heap /\ (∀ b ∈ fp, H' b = none) /\ s'.heap.get? D = some { cls := .type "list", data := .seq its.toArray k } /\ H' D = none /\ Inv X' pins σ' H' s' := fun {σ' H' s'} J0 => by
        refine ⟨T.keep _ _ _ t3 fun b hb o e => (J0.pin (b, o) (List.mem_append_right _ (List.mem_append_right _ (mem_pinsAt hb e)))).1, fun b hb => ?_, ?_, ?_, J0.unpinned.unpinned⟩
        · obtain ⟨o, e, _⟩ := T.obj _ _ t3 b hb
          exact (J0.pin (b, o) (List.mem_append_right _ (List.mem_append_right _ (mem_pinsAt hb e)))).2.1
        · exact (J0.pin (D, _) (List.mem_append_right _ (List.mem_append_left _ (List.mem_append_right _ List.mem_cons_self)))).1
        · exact (J0.pin (D, { cls := .type "list", data := .seq its.toArray k }) (List.mem_append_right _ (List.mem_append_left _ (List.mem_append_right _ List.mem_cons_self)))).2.1
      cases ok with
      | false =>
        obtain ⟨m', hm, w'⟩ := q5
        obtain ⟨e1, e2, e3, e4, e5⟩ := keepT J5
        rw [if_neg Bool.false_ne_true]
        exact ⟨m', hm, i + 1, ys, σ4, H5, its, k, e5, e1, e2, e3, e4, v1, w'⟩
      | true =>
        rw [if_pos rfl]
        have a5 := he' _ s5 σ4 H5 _ J5 q5
        rw [pm, wm, am, xm] at a5
        refine thn a5 fun u6 s6 ⟨y, H6, J6, r6, m', hm, w6⟩ => ?_
        obtain ⟨e1, e2, e3, e4, e5⟩ := keepT J6
        refine append_at (hsz := by show its.toArray.size <= sizeLine; rw [List.size_toArray, <- v1.length]; exact Nat.le_of_lt hlen) e3 fun h7 sb7 d7 => ?_
        have J7 : Inv X' pins σ4 H6 { s6 with heap := h7 } := e5.turned (t' := s6.toks) (it := D) (fun b o hb e => sb7.extBut b o hb e) e4 (by rw [lm]; exact Nat.ne_of_lt hD0) (.inr (by rw [szm, hDD]; exact Nat.le_refl _)) (fun x d e => Nat.ne_of_lt (ageC x d e)) fun p hp => by
          rw [nm] at hp
          exact Nat.ne_of_lt (ageP p hp)
        refine ⟨m', hm, i + 1, ys ++ [y], σ4, H6, its ++ [u6], k + 1, J7, T.keep _ _ _ e1 fun b hb o e => sb7.extBut b o (Nat.ne_of_lt (by rw [<- hDD]; exact hlt b hb)) e, e2, ?_, e4, v1.append (.cons r6 .nil), w6⟩
        rw [d7, List.push_toArray]
  have env1 : ({ newEnv scope C X.env.globals (clOf X.env scope.names []) X.env.qual none .none (some X.env) 0 with scope := relabel scope X.env } : Env) = X'.env := by rw [em]; rfl
  have lp := loop _ rfl
  rw [em] at lp
  exact codeAny_compStart_list lp (T.self _ 0 _ _ _ st1 lp)
def tComp (wi : TI) (fr : List (Option Nat)) (g : TG) (tt : TT) (te : TE) : TE := fun σ H Q => wi σ H fun J H1 =>
  ∃ W, CompW J g tt te (fun ys H' => ∀ p, H' p = none -> Q (.ref p) (upd H' p (.lst ys))) W /\ ∃ m, W 0 m [] (stComp fr σ) H1
theorem pe_comp {wi : TI} (c : CompOk X scope N' fr) (hc : X.calm = true) (hi : PI X tg iter wi) (hg : ∀ fp C s H, PG (cxComp X scope N' fp C s H) tg g) (ht : ∀ fp C s H, PIfs (cxComp X scope N' fp C s H) ifs tt)
    (he : ∀ fp C s H, PE (cxComp X scope N' fp C s H) elt te) (hs : ∀ x, foldedSetIterable iter X.env x = pure x := by intro _; rfl) : PE X (.ListComp elt [⟨tg, iter, ifs, 0⟩] scope pos) (tComp wi fr g tt te) := by
  intro pins s σ H Q I h
  rw [eval_ListComp]
  refine wpAny_comprehension_free (use := none) rfl hs (closure_is (c.has I.ok)) c.kind c.names (thn (hi pins s σ H _ I h) fun v s1 h1 => thn h1 fun itv s2 h2 => ?_)
  obtain ⟨it, fp, tn, J, H2, e, I2, T, st2, f2, W, hW, h0⟩ := h2
  subst e
  refine comp_block c hc I2 T st2 f2 hg ht he hW h0 ?_
  rintro D C ys H' s' J3 ⟨m, hm⟩ ⟨f0, f1, _, f3, f4, f5⟩ nD fi
  exact ⟨m, hm, fun h'' sb => ⟨.ref D, _, J3.turned (t' := s'.toks) (it := C) (fun b o hb e => sb.extBut b o hb e) f0 f1 f3 f4 f5, rfl, fi D nD⟩⟩
end
section
variable {X : Cx}
theorem call_isinst : CallR X (.builtin "isinstance") (fun xs H Q => ∃ x c t u b, xs = [x, c] /\ RelV c u /\ TyOf X.K H x t /\ PySem.W.kitOne X.K t u = some b /\ Q (.bl b) H) := by
  intro pins s σ H xs us Q I r h
  obtain ⟨x, c, t, u, b, rfl, rc, ty, e, q⟩ := h
  obtain ⟨u1, u2, rfl, r1, r2⟩ := Vals.two r
  have hu : u2 = u := by
    cases c <;> first
      | exact (show u2 = _ from r2).trans (show u = _ from rc).symm
      | skip
    all_goals (exfalso; obtain ⟨_, rfl⟩ := rc; unfold PySem.W.kitOne PySem.W.kitCls at e; split at e <;> first | (cases ty <;> simp_all) | (simp at e))
  subst hu
  exact isinst_ok I r1 ty e fun tk => ⟨.bl b, H, I.tok tk, rfl, q⟩
inductive SameD (K : PySem.W.Frag) (H : Hp) : Nat -> V -> V -> Prop
  | flat {n : Nat} {x : V} (f : flatV x = true) : SameD K H n x x
  | tup {n : Nat} {a b : Addr} {xs ys : List V} (ha : SqT K H a xs) (hb : SqT K H b ys) (hl : xs.length = ys.length) (h : ∀ (i : Nat) (x y : V), xs[i]? = some x -> ys[i]? = some y -> SameD K H n x y) : SameD K H (n + 1) (.ref a) (.ref b)
  | lst {n : Nat} {a b : Addr} {xs ys : List V} (ha : SqL K H a xs) (hb : SqL K H b ys) (hl : xs.length = ys.length) (h : ∀ (i : Nat) (x y : V), xs[i]? = some x -> ys[i]? = some y -> SameD K H n x y) : SameD K H (n + 1) (.ref a) (.ref b)
theorem eqV_self {x : V} (f : flatV x = true) : eqV x x = true := by
  cases x <;> first | (exact absurd (show false = true from f) Bool.false_ne_true) | rfl | (simp [eqV])
theorem range_all_true (n : Nat) (e : Nat -> Bool) (h : ∀ i, e i = true) : (List.range n).all e = true := by
  rw [List.all_eq_true]; intro i _; exact h i
theorem in1_units {A : Around} : A.in1.units <= A.units + 1 := by
  first
    | exact Nat.le_refl _
    | exact Nat.le_succ _
    | (simp [Around.in1])
theorem SameD.rc {pins : List (Addr × Obj)} {σ : St} {H : Hp} {s : Shared} (I : Inv X pins σ H s) {n : Nat} {x y : V} (h : SameD X.K H n x y) : ∀ (A : Around), A.units + n < cLine -> ∀ (u v : Value), RelV x u -> RelV y v -> SeqAt.EqAt A s u v true := by
  induction h with
  | flat f => intro A hu u v ru rv; have := eqAt_V (A := A) (s := s) ru rv f f; rw [eqV_self f] at this; exact this
  | @tup n a b xs ys ha hb hl _ ih =>
    intro A hu u v ru rv
    cases (show u = Value.ref a from ru)
    cases (show v = Value.ref b from rv)
    by_cases e : a = b
    · subst e; exact SeqAt.EqAt.same _
    · obtain ⟨its, r1, t1, _⟩ := I.tuple ha
      obtain ⟨its2, r2, t2, _⟩ := I.tuple hb
      have hz : its.toArray.size = its2.toArray.size := by simp [<- r1.length, <- r2.length, hl]
      refine SeqAt.EqAt.of_refs e ?_
      have q := SeqAt.RcAt.tuples (e := fun _ => true) (A := A) t1 t2 (by lia) (fun j h1 h2 => ?_)
      · rw [range_all_true _ _ (fun _ => rfl), hz] at q
        simpa using q
      · have l1 : j < xs.length := by have := r1.length; simp at h1; lia
        have l2 : j < ys.length := by lia
        obtain ⟨u1, e1, q1⟩ := r1.get (i := j) (x := xs[j]) (by simp [l1])
        obtain ⟨u2, e2, q2⟩ := r2.get (i := j) (x := ys[j]) (by simp [l2])
        have w1 : its.toArray[j] = u1 := by have := List.getElem?_eq_some_iff.mp e1; simpa using this.2
        have w2 : its2.toArray[j] = u2 := by have := List.getElem?_eq_some_iff.mp e2; simpa using this.2
        rw [w1, w2]
        exact ih j _ _ (by simp [l1]) (by simp [l2]) A.in1 (by have := @in1_units A; lia) _ _ q1 q2
  | @lst n a b xs ys ha hb hl _ ih =>
    intro A hu u v ru rv
    cases (show u = Value.ref a from ru)
    cases (show v = Value.ref b from rv)
    by_cases e : a = b
    · subst e; exact SeqAt.EqAt.same _
    · obtain ⟨its, r1, t1, _⟩ := I.list ha
      obtain ⟨its2, r2, t2, _⟩ := I.list hb
      have hz : its.toArray.size = its2.toArray.size := by simp [<- r1.length, <- r2.length, hl]
      refine SeqAt.EqAt.of_refs e ?_
      have q := SeqAt.RcAt.lists (e := fun _ => true) (A := A) t1.isList t2.isList hz (by lia) (fun j h1 h2 => ?_)
      · rw [range_all_true _ _ (fun _ => rfl)] at q
        exact q
      · have l1 : j < xs.length := by have := r1.length; simp at h1; lia
        have l2 : j < ys.length := by lia
        obtain ⟨u1, e1, q1⟩ := r1.get (i := j) (x := xs[j]) (by simp [l1])
        obtain ⟨u2, e2, q2⟩ := r2.get (i := j) (x := ys[j]) (by simp [l2])
        have w1 : its.toArray[j] = u1 := by have := List.getElem?_eq_some_iff.mp e1; simpa using this.2
        have w2 : its2.toArray[j] = u2 := by have := List.getElem?_eq_some_iff.mp e2; simpa using this.2
        rw [w1, w2]
        exact ih j _ _ (by simp [l1]) (by simp [l2]) A.in1 (by have := @in1_units A; lia) _ _ q1 q2
def rSame (K : PySem.W.Frag) (out : Bool) : R2 := fun x y H Q => ∃ a b xs ys n, x = .ref a /\ y = .ref b /\ ((SqT K H a xs /\ SqT K H b ys) \/ (SqL K H a xs /\ SqL K H b ys)) /\ xs.length = ys.length /\ n <= 64 /\
  (∀ (i : Nat) (x y : V), xs[i]? = some x -> ys[i]? = some y -> SameD K H n x y) /\ Q (.bl out) H
theorem same_items {pins : List (Addr × Obj)} {σ : St} {H : Hp} {s : Shared} (I : Inv X pins σ H s) {A : Around} {n : Nat} {xs ys : List V} {its its2 : List Value} (hu : A.units + n < cLine) (r1 : Vals xs its) (r2 : Vals ys its2) (hl : xs.length = ys.length)
    (h : ∀ (i : Nat) (x y : V), xs[i]? = some x -> ys[i]? = some y -> SameD X.K H n x y) : ∀ j (h1 : j < its.toArray.size) (h2 : j < its2.toArray.size), SeqAt.EqAt A s its.toArray[j] its2.toArray[j] true := by
  intro j h1 h2
  have l1 : j < xs.length := by have := r1.length; simp at h1; lia
  have l2 : j < ys.length := by lia
  obtain ⟨u1, e1, q1⟩ := r1.get (i := j) (x := xs[j]) (by simp [l1])
  obtain ⟨u2, e2, q2⟩ := r2.get (i := j) (x := ys[j]) (by simp [l2])
  have w1 : its.toArray[j] = u1 := by have := List.getElem?_eq_some_iff.mp e1; simpa using this.2
  have w2 : its2.toArray[j] = u2 := by have := List.getElem?_eq_some_iff.mp e2; simpa using this.2
  rw [w1, w2]
  exact (h j _ _ (by simp [l1]) (by simp [l2])).rc I A hu _ _ q1 q2
theorem op_eqS (hu : X.A.units + 66 < cLine) : OpR X (compareOp .Eq) (rSame X.K true) := by
  intro pins s σ H x y v u Q I rx ry h
  obtain ⟨a, b, xs, ys, n, rfl, rfl, hk, hl, hn, hs, q⟩ := h
  cases (show v = Value.ref a from rx)
  cases (show u = Value.ref b from ry)
  have hu1 : X.A.in1.units + n < cLine := by have := @in1_units X.A; lia
  rcases hk with ⟨ha, hb⟩ | ⟨ha, hb⟩
  · obtain ⟨its, r1, t1, _⟩ := I.tuple ha
    obtain ⟨its2, r2, t2, _⟩ := I.tuple hb
    have hz : its.toArray.size = its2.toArray.size := by simp [<- r1.length, <- r2.length, hl]
    refine SeqAt.eq_tupleAt (e := fun _ => true) t1 t2 (by lia) (same_items I hu1 r1 r2 hl hs) ?_
    rw [range_all_true _ _ (fun _ => rfl), hz]
    exact ⟨.bl true, H, I, by simp [RelV], q⟩
  · obtain ⟨its, r1, t1, _⟩ := I.list ha
    obtain ⟨its2, r2, t2, _⟩ := I.list hb
    have hz : its.toArray.size = its2.toArray.size := by simp [<- r1.length, <- r2.length, hl]
    refine SeqAt.eq_listAt (e := fun _ => true) t1.isList t2.isList hz (by lia) (same_items I hu1 r1 r2 hl hs) ?_
    rw [range_all_true _ _ (fun _ => rfl)]
    exact ⟨.bl true, H, I, rfl, q⟩
theorem op_neS (hu : X.A.units + 66 < cLine) : OpR X (compareOp .NotEq) (rSame X.K false) := by
  intro pins s σ H x y v u Q I rx ry h
  obtain ⟨a, b, xs, ys, n, rfl, rfl, hk, hl, hn, hs, q⟩ := h
  cases (show v = Value.ref a from rx)
  cases (show u = Value.ref b from ry)
  have hu1 : X.A.in1.units + n < cLine := by have := @in1_units X.A; lia
  rcases hk with ⟨ha, hb⟩ | ⟨ha, hb⟩
  · obtain ⟨its, r1, t1, _⟩ := I.tuple ha
    obtain ⟨its2, r2, t2, _⟩ := I.tuple hb
    have hz : its.toArray.size = its2.toArray.size := by simp [<- r1.length, <- r2.length, hl]
    refine EqBoolInt.of_rcne (SeqAt.RcNeAt.tuples (e := fun _ => true) t1 t2 (by lia) (same_items I hu1 r1 r2 hl hs)) ?_
    rw [range_all_true _ _ (fun _ => rfl), hz]
    exact ⟨.bl false, H, I, by simp [RelV], q⟩
  · obtain ⟨its, r1, t1, _⟩ := I.list ha
    obtain ⟨its2, r2, t2, _⟩ := I.list hb
    have hz : its.toArray.size = its2.toArray.size := by simp [<- r1.length, <- r2.length, hl]
    refine EqBoolInt.of_rcne (SeqAt.RcNeAt.lists (e := fun _ => true) t1.isList t2.isList hz (by lia) (same_items I hu1 r1 r2 hl hs)) ?_
    rw [range_all_true _ _ (fun _ => rfl)]
    exact ⟨.bl false, H, I, rfl, q⟩
def rNil (K : PySem.W.Frag) (neg : Bool) : R2 := fun x y H Q => ∃ a b xs, x = .ref a /\ y = .ref b /\ SqL K H a xs /\ SqL K H b [] /\ Q (.bl (neg ^^ decide (xs = []))) H
theorem op_neNil (hu : X.A.units + 66 < cLine) : OpR X (compareOp .NotEq) (rNil X.K true) := by
  intro pins s σ H x y v u Q I rx ry h
  obtain ⟨a, b, xs, rfl, rfl, ha, hb, q⟩ := h
  cases (show v = Value.ref a from rx)
  cases (show u = Value.ref b from ry)
  obtain ⟨its, r1, t1, _⟩ := I.list ha
  obtain ⟨its2, r2, t2, _⟩ := I.list hb
  have z2 : its2 = [] := Vals.zero r2
  subst z2
  cases xs with
  | nil =>
    have z1 : its = [] := Vals.zero r1
    subst z1
    exact EqBoolInt.of_rcne (SeqAt.RcNeAt.lists (e := fun _ => true) t1.isList t2.isList rfl (by lia) (fun j h1 _ => absurd h1 (by simp))) ⟨.bl false, H, I, by simp [RelV], by simpa using q⟩
  | cons x xs =>
    have hl := r1.length
    exact EqBoolInt.of_rcne (SeqAt.RcNeAt.lists_lengths t1.isList t2.isList (by simp [<- hl]) (by lia)) ⟨.bl true, H, I, rfl, by simpa using q⟩
theorem kept_iter {h h' : Heap} {o : Obj} (hk : ∀ b u, b ∉ [h.objs.size] -> (h.push o).get? b = some u -> h'.get? b = some u) : ∀ b u, h.get? b = some u -> h'.get? b = some u := fun b u e =>
  hk b u (fun hm => absurd (Heap.lt_size e) (by rw [List.mem_singleton.mp hm]; exact Nat.lt_irrefl _)) (Heap.get?_push_of_some _ e)
theorem bools_at {bs : List Bool} {its : List Value} (r : Vals (bs.map V.bl) its) {i : Nat} {v : Value} (e : its.toArray[i]? = some v) : v = .bool (bs.getD i false) := by
  have e' : its[i]? = some v := by simpa using e
  have hl : i < its.length := (List.getElem?_eq_some_iff.mp e').1
  have hb : i < bs.length := by have := r.length; rw [List.length_map] at this; lia
  obtain ⟨u, e1, q⟩ := r.get (i := i) (x := V.bl bs[i]) (by simp [hb])
  rw [e1] at e'
  cases e'
  have e3 : v = Value.bool bs[i] := q
  rw [e3]
  simp [List.getD, hb]
theorem range_all_get (bs : List Bool) : (List.range bs.length).all (fun i => bs.getD i false) = bs.all id := by
  rw [Bool.eq_iff_iff, List.all_eq_true, List.all_eq_true]
  constructor
  · intro h x hx
    obtain ⟨i, hi, e⟩ := List.mem_iff_getElem.mp hx
    have := h i (List.mem_range.mpr hi)
    simp [List.getD, hi, e] at this
    exact this
  · intro h i hi
    have hi' := List.mem_range.mp hi
    have := h bs[i] (List.getElem_mem hi')
    simpa [List.getD, hi'] using this
theorem call_all (hc : X.calm = true) : CallR X (.builtin "all") (fun xs H Q => ∃ (p : Addr) (bs : List Bool), xs = [.ref p] /\ SqL X.K H p (bs.map V.bl) /\ Q (.bl (bs.all id)) H) := by
  intro pins s σ H xs us Q I r h
  obtain ⟨p, bs, rfl, hp, q⟩ := h
  obtain ⟨u, rfl, ru⟩ := Vals.one r
  cases (show u = Value.ref p from ru)
  obtain ⟨its, r1, t1, _⟩ := I.list hp
  have hh : X.A.in1.handled = none := I.ok.hd hc
  have hlt : p < s.heap.objs.size := by obtain ⟨_, e, _⟩ := t1.isList; exact Heap.lt_size e
  refine call_all_walk (wpAny_pyIter_list t1.isList ⟨_, _, _, _, _, _, fun i => bs.getD i false, rfl, Walks.list hh _ p (Nat.ne_of_lt hlt) its.toArray, ⟨⟨_, Heap.get?_push_size _ rfl, rfl, rfl⟩, t1.isList.push _⟩, ?_, ?_⟩)
  · intro i v s' Q' E' e hq
    rw [bools_at r1 e]
    exact wpAny_truthy_bool hq
  · intro h' tk hk
    have hl : its.toArray.size = bs.length := by have := r1.length; simp at this ⊢; lia
    rw [hl, range_all_get]
    exact ⟨.bl _, H, I.kept (kept_iter hk), rfl, q⟩
end
section
variable {X : Cx} {pins : List (Addr × Obj)} {σ : St} {H : Hp} {s : Shared}
theorem Inv.turnM {ch : List Addr} {t' : Nat} {h' : Heap} (I : Inv X pins σ H s) (hf : ∀ b ∈ ch, FpOk X pins H b) (k : ∀ b u, b ∉ ch -> s.heap.get? b = some u -> h'.get? b = some u) : Inv X pins σ H { s with heap := h', toks := t' } := by
  have nch : ∀ b u, H b = some u -> b ∉ ch := fun b u e z => by have := (hf b z).1; rw [this] at e; cases e
  refine I.step (g' := s.gens) (d' := s.drawn) (ch := ch) (fun b hb => ⟨(hf b hb).2.2.2.1, (hf b hb).2.1, (hf b hb).2.2.2.2.1, (hf b hb).2.2.2.2.2⟩) (fun b o _ _ hc e _ => k b o hc e) (fun b o _ _ hc e _ => ⟨o.slots, k b o hc e⟩) (fun _ _ _ _ n => n)
    (fun b o hc e => ⟨o, k b o hc e⟩) (fun _ _ e => e) (fun _ _ _ e => e) (fun b ps e => ⟨#[], by rw [e]; simp⟩) (fun m hm => ?_) (fun b u e => ?_) I.bare
  · obtain ⟨o, es, ep, ho, r⟩ := hm
    exact ⟨o, es, ep, k _ o (fun z => (hf _ z).2.1 rfl) ho, r⟩
  · refine (I.hok b u e).stay (fun c v hc q => k c v ?_ q) (fun _ q => q) fun _ _ q => q
    rcases hc with z | z
    · rw [z]; exact nch b u e
    · exact nch c _ z
theorem Inv.turnNew {ch : List Addr} {T : Addr} {o : HO} {t' : Nat} {h' : Heap} (I : Inv X pins σ H s) (hf : ∀ b ∈ ch, FpOk X pins H b) (k : ∀ b u, b ∉ ch -> s.heap.get? b = some u -> h'.get? b = some u) (hT : s.heap.objs.size <= T)
    (new : ObjOk X.prog X.w (upd H T o) h' T o) : Inv X pins σ (upd H T o) { s with heap := h', toks := t' } := by
  have nch : ∀ b u, H b = some u -> b ∉ ch := fun b u e z => by have := (hf b z).1; rw [this] at e; cases e
  have nT : H T = none := I.hok.fresh hT
  have neT : ∀ b u, s.heap.get? b = some u -> b ≠ T := fun b u e => Nat.ne_of_lt (Nat.lt_of_lt_of_le (Heap.lt_size e) hT)
  refine I.step (g' := s.gens) (d' := s.drawn) (ch := ch) (fun b hb => ⟨(hf b hb).2.2.2.1, (hf b hb).2.1, (hf b hb).2.2.2.2.1, (hf b hb).2.2.2.2.2⟩) (fun b o _ _ hc e _ => k b o hc e) (fun b o _ _ hc e _ => ⟨o.slots, k b o hc e⟩) (fun b u _ e n => by rw [upd_ne (neT b u e)]; exact n)
    (fun b o hc e => ⟨o, k b o hc e⟩) (fun b xs e => by rw [upd_ne (ne_of_none e nT)]; exact e) (fun b o u e => by rw [upd_ne (ne_of_none e nT)]; exact e) (fun b ps e => ⟨#[], by rw [upd_ne (ne_of_none e nT), e]; simp⟩) (fun m hm => ?_) (fun b u e => ?_) I.bare
  · obtain ⟨o, es, ep, ho, r⟩ := hm
    exact ⟨o, es, ep, k _ o (fun z => (hf _ z).2.1 rfl) ho, r⟩
  · by_cases hb : b = T
    · subst hb
      rw [upd_same] at e
      cases e
      exact new
    · rw [upd_ne hb] at e
      refine (I.hok b u e).stay (fun c v hc q => k c v ?_ q) (fun c r => by rw [upd_ne (ne_of_none r nT)]; exact r) fun c xs r => by rw [upd_ne (ne_of_none r nT)]; exact r
      rcases hc with z | z
      · rw [z]; exact nch b u e
      · exact nch c _ z
end
inductive Kd | l | t
def ItAt (k : Kd) (h : Heap) (it a : Addr) (i : Nat) : Prop := match k with | .l => h.IsListIter it a i | .t => h.IsTupleIter it a i
def SqK (k : Kd) (K : PySem.W.Frag) (H : Hp) (a : Addr) (xs : List V) : Prop := match k with | .l => SqL K H a xs | .t => SqT K H a xs
def SeqIs (k : Kd) (h : Heap) (a : Addr) (its : List Value) : Prop := match k with | .l => h.IsList a its.toArray | .t => h.IsTuple a its.toArray
def iterTy : Kd -> String | .l => "list_iterator" | .t => "tuple_iterator"
theorem Inv.seq {X : Cx} {pins : List (Addr × Obj)} {σ : St} {H : Hp} {s : Shared} (I : Inv X pins σ H s) {k : Kd} {a : Addr} {xs : List V} (h : SqK k X.K H a xs) : ∃ its : List Value, Vals xs its /\ SeqIs k s.heap a its /\ xs.length <= sizeLine := by
  cases k with
  | l => obtain ⟨its, r, t, z⟩ := I.list h; exact ⟨its, r, t.isList, z⟩
  | t => obtain ⟨its, r, t, z⟩ := I.tuple h; exact ⟨its, r, t, z⟩
theorem ItAt.kept {k : Kd} {h h' : Heap} {it a : Addr} {i : Nat} (q : ItAt k h it a i) (e : ∀ o, h.get? it = some o -> h'.get? it = some o) : ItAt k h' it a i := by
  cases k with
  | l => obtain ⟨o, ho, r⟩ := (show h.IsListIter it a i from q); exact ⟨o, e _ ho, r⟩
  | t => obtain ⟨o, ho, r⟩ := (show h.IsTupleIter it a i from q); exact ⟨o, e _ ho, r⟩
theorem ItAt.obj {k : Kd} {h : Heap} {it a : Addr} {i : Nat} (q : ItAt k h it a i) : ∃ o, h.get? it = some o /\ ∀ v, o.data ≠ .cell v := by
  cases k with
  | l => obtain ⟨o, ho, _, d⟩ := (show h.IsListIter it a i from q); exact ⟨o, ho, fun v z => by rw [d] at z; cases z⟩
  | t => obtain ⟨o, ho, _, d⟩ := (show h.IsTupleIter it a i from q); exact ⟨o, ho, fun v z => by rw [d] at z; cases z⟩
theorem SeqIs.kept {k : Kd} {h h' : Heap} {a : Addr} {its : List Value} (q : SeqIs k h a its) (e : ∀ o, h.get? a = some o -> h'.get? a = some o) : SeqIs k h' a its := by
  cases k with
  | l => obtain ⟨o, ho, r⟩ := (show h.IsList a its.toArray from q); exact ⟨o, e _ ho, r⟩
  | t => obtain ⟨o, ho, r⟩ := (show h.IsTuple a its.toArray from q); exact ⟨o, e _ ho, r⟩
section
variable {prog : Program} {w : World} {A : Around} {E : Value -> Shared -> Prop} {s : Shared}
theorem next_tup {it t : Addr} {i : Nat} {its : List Value} {x : Value} {Q : Value -> Shared -> Prop} (hi : s.heap.IsTupleIter it t i) (ht : s.heap.IsTuple t its.toArray) (hx : its[i]? = some x)
    (q : ∀ h', h'.IsTupleIter it t (i + 1) -> Heap.SameBut it s.heap h' -> Q x { s with heap := h' }) : wpAny (model prog w) A (Builtin.SmallTypes.nextOf (.ref it)) Q E s := by
  obtain ⟨oi, gi, ci, di⟩ := id hi
  obtain ⟨ot, gt, _, nt, dt⟩ := ht
  have hx' : its.toArray[i]? = some x := by simpa using hx
  unfold Builtin.SmallTypes.nextOf
  refine wpAny_bind (wpAny_callSpecial?_slot (name := Str.ofString "__next__") hi.typeIs F.slot_tuple_iterator_next (wpAny_call_entry F.slot_tuple_iterator_next hi.typeIs F.entry_tuple_iterator_next ?_ (F.args_tuple_iterator_next_1 _)))
  show wpAny _ _ (field (Value.ref it) 0 >>= _) _ _ s
  refine wpAny_bind (wpAny_field gi di (x := Value.ref t) rfl ?_)
  rw [if_neg (show ¬ ((Value.ref t == Value.none) = true) by intro z; cases z)]
  refine wpAny_bind (wpAny_field gi di (x := Value.int i 0) rfl ?_)
  refine wpAny_bind (wpAny_seqItems gt dt ?_)
  simp only [Int.toNat_natCast, hx']
  refine wpAny_bind (wpAny_setField gi di (by simp) (wpAny_pure ⟨x, rfl, wpAny_pure (q _ ?_ (Heap.SameBut.update ..))⟩))
  refine ⟨_, Heap.get?_update_self _ gi (Obj.isFreed_of_fields (Obj.data_mapFields di _)), (Obj.cls_mapFields ..).trans ci, ?_⟩
  rw [Obj.data_mapFields di]
  simp [rawInt]
theorem end_tup {it t : Addr} {i : Nat} {its : List Value} {Q : Value -> Shared -> Prop} (hh : A.handled = none) (hi : s.heap.IsTupleIter it t i) (ht : s.heap.IsTuple t its.toArray) (hx : its.length <= i)
    (q : ∀ h' e, Heap.ExtBut it s.heap h' -> (∃ o, h'.get? e = some o /\ o.cls = .type "StopIteration") -> E (.ref e) { s with heap := h' }) : wpAny (model prog w) A (Builtin.SmallTypes.nextOf (.ref it)) Q E s := by
  obtain ⟨oi, gi, ci, di⟩ := id hi
  obtain ⟨ot, gt, _, nt, dt⟩ := ht
  have hx' : its.toArray[i]? = none := by simpa using hx
  unfold Builtin.SmallTypes.nextOf
  refine wpAny_bind (wpAny_callSpecial?_slot (name := Str.ofString "__next__") hi.typeIs F.slot_tuple_iterator_next (wpAny_call_entry F.slot_tuple_iterator_next hi.typeIs F.entry_tuple_iterator_next ?_ (F.args_tuple_iterator_next_1 _)))
  show wpAny _ _ (field (Value.ref it) 0 >>= _) _ _ s
  refine wpAny_bind (wpAny_field gi di (x := Value.ref t) rfl ?_)
  rw [if_neg (show ¬ ((Value.ref t == Value.none) = true) by intro z; cases z)]
  refine wpAny_bind (wpAny_field gi di (x := Value.int i 0) rfl ?_)
  refine wpAny_bind (wpAny_seqItems gt dt ?_)
  simp only [Int.toNat_natCast, hx']
  refine wpAny_bind (wpAny_rule (wpAny_bind (wpAny_setField gi di (by simp) (wpAny_bind ?_))))
  simp only [newExc, newTuple]
  refine wpAny_bind (wpAny_newObj_type (wpAny_bind (m := firstArgMember _ _) (wpAny_of_eq (a := Value.none) ?_ (wpAny_newObj_type ?_ (by size_fits)))) (by size_fits))
  · first | rfl | (simp only [firstArgMember]; rfl)
  simp only [raiseNew]
  refine wpAny_bind (wpAny_handled ?_)
  first | rw [show A.in1.handled = none from hh] | rw [hh]
  exact wpAny_bind (wpAny_pure (wpAny_throw (q _ _ (((Heap.SameBut.update ..).extBut.push _).push _) ⟨_, Heap.get?_push_size _ rfl, rfl⟩)))
theorem next_seq {k : Kd} {it a : Addr} {i : Nat} {its : List Value} {x : Value} {Q : Value -> Shared -> Prop} (hi : ItAt k s.heap it a i) (hs : SeqIs k s.heap a its) (hx : its[i]? = some x)
    (q : ∀ h', ItAt k h' it a (i + 1) -> Heap.SameBut it s.heap h' -> Q x { s with heap := h' }) : wpAny (model prog w) A (Builtin.SmallTypes.nextOf (.ref it)) Q E s := by
  cases k with
  | l => exact wpAny_nextOf_list_item hi hs (by simpa using hx) q
  | t => exact next_tup hi hs hx q
theorem end_seq {k : Kd} {it a : Addr} {i : Nat} {its : List Value} {Q : Value -> Shared -> Prop} (hh : A.handled = none) (hi : ItAt k s.heap it a i) (hs : SeqIs k s.heap a its) (hx : its.length <= i)
    (q : ∀ h' e, Heap.ExtBut it s.heap h' -> (∃ o, h'.get? e = some o /\ o.cls = .type "StopIteration") -> E (.ref e) { s with heap := h' }) : wpAny (model prog w) A (Builtin.SmallTypes.nextOf (.ref it)) Q E s := by
  cases k with
  | l => exact wpAny_nextOf_list_end hh hi hs (by simpa using hx) q
  | t => exact end_tup hh hi hs hx q
theorem iter_seq {k : Kd} {a : Addr} {its : List Value} {Q : Value -> Shared -> Prop} (hs : SeqIs k s.heap a its)
    (q : Q (.ref s.heap.objs.size) { s with heap := s.heap.push { cls := .type (iterTy k), data := .fields #[.ref a, .int 0 0] } }) : wpAny (model prog w) A (pyIter (.ref a)) Q E s := by
  cases k with
  | l => exact wpAny_pyIter_list hs q
  | t => exact wpAny_pyIter_tuple hs q
theorem iter_at {k : Kd} {h : Heap} {a : Addr} : ItAt k (h.push { cls := .type (iterTy k), data := .fields #[.ref a, .int 0 0] }) h.objs.size a 0 := by
  cases k with
  | l => exact ⟨_, Heap.get?_push_size _ rfl, rfl, rfl⟩
  | t => exact ⟨_, Heap.get?_push_size _ rfl, rfl, rfl⟩
end
open AutoSeq1 (wpAny_loadPart')
section
variable {prog : Program} {w : World} {A : Around} {E : Value -> Shared -> Prop} {s : Shared}
theorem enum_step {k : Kd} {e it a : Addr} {i : Nat} {its : List Value} {x old : Value} {Q : Value -> Shared -> Prop} (he : IsEnum s.heap e it i old) (hi : ItAt k s.heap it a i) (hs : SeqIs k s.heap a its) (hx : its[i]? = some x) (ne : e ≠ it)
    (q : ∀ h', IsEnumOut h' e it ((i : Int) + 1) x s.heap.objs.size -> ItAt k h' it a (i + 1) -> h'.get? s.heap.objs.size = some { cls := .type "tuple", data := .seq #[.int i s.toks, x] } ->
      (∀ b o, b ≠ e -> b ≠ it -> s.heap.get? b = some o -> h'.get? b = some o) -> Q (.ref s.heap.objs.size) { s with heap := h', toks := s.toks + 1 }) :
    wpAny (model prog w) A (Builtin.«enumerate.__next__» ⟨[.ref e], []⟩) (fun fin s' => ∃ v, fin = .done (.ret v) /\ Q v s') E s := by
  obtain ⟨hp, g, d, tk, os⟩ := s
  show wpAny _ _ (field (Value.ref e) 2 >>= _) _ _ _
  refine wpAny_bind (wpAny_field he rfl (x := Value.ref it) rfl (wpAny_bind (next_seq hi hs hx fun g1 i1 b1 => ?_)))
  replace b1 : Heap.SameBut it hp g1 := b1
  have e1 : IsEnum g1 e it i old := (b1.2 e ne).trans he
  refine wpAny_bind (wpAny_field (s := ⟨g1, g, d, tk, os⟩) e1 rfl (x := rawInt i) rfl (wpAny_bind (wpAny_field (s := ⟨g1, g, d, tk, os⟩) e1 rfl (x := Value.none) rfl ?_)))
  refine wpAny_bind (wpAny_mkInt (wpAny_bind (wpAny_setField_rec (s := ⟨g1, g, d, tk + 1, os⟩) e1 (by simp) fun g2 e2 b2 => ?_)))
  replace b2 : Heap.SameBut e g1 g2 := b2
  replace e2 : IsEnum g2 e it ((i : Int) + 1) old := e2
  refine wpAny_bind (wpAny_setField_rec (s := ⟨g2, g, d, tk + 1, os⟩) e2 (by simp) fun g3 e3 b3 => ?_)
  replace b3 : Heap.SameBut e g2 g3 := b3
  replace e3 : IsEnum g3 e it ((i : Int) + 1) old := e3
  refine wpAny_bind (wpAny_newTuple ?_)
  have hz : g3.objs.size = hp.objs.size := by rw [b3.1, b2.1, b1.1]
  have el : e < hp.objs.size := Heap.lt_size he
  obtain ⟨oi, gi, _⟩ := hi.obj
  have il : it < hp.objs.size := Heap.lt_size gi
  have e4 : IsEnum (g3.push { cls := .type "tuple", data := .seq #[.int i tk, x] }) e it ((i : Int) + 1) old := Heap.get?_push_of_some _ e3
  have t4 : (g3.push { cls := .type "tuple", data := .seq #[.int i tk, x] }).get? hp.objs.size = some { cls := .type "tuple", data := .seq #[.int i tk, x] } := by rw [<- hz]; exact Heap.get?_push_size _ rfl
  have k4 : ∀ b o, b ≠ e -> b ≠ it -> hp.get? b = some o -> (g3.push { cls := .type "tuple", data := .seq #[.int i tk, x] }).get? b = some o := fun b o h1 h2 h3 =>
    Heap.get?_push_of_some _ (b3.extBut b o h1 (b2.extBut b o h1 (b1.extBut b o h2 h3)))
  have i4 : ItAt k (g3.push { cls := .type "tuple", data := .seq #[.int i tk, x] }) it a (i + 1) := i1.kept fun o h => Heap.get?_push_of_some _ (b3.extBut it o ne.symm (b2.extBut it o ne.symm h))
  show wpAny _ _ (Builtin.SmallTypes.ownedTupleIsFree (Value.ref e) >>= _) _ _ ⟨g3.push { cls := .type "tuple", data := .seq #[.int i tk, x] }, g, d, tk + 1, os⟩
  rw [hz]
  generalize g3.push { cls := .type "tuple", data := .seq #[.int i tk, x] } = g4 at e4 t4 k4 i4
  refine wpAny_bind ?_
  unfold Builtin.SmallTypes.ownedTupleIsFree
  refine wpAny_bind (wpAny_field e4 rfl (x := Value.none) rfl (wpAny_pure ?_))
  simp only [if_true]
  refine wpAny_bind (wpAny_rule (wpAny_bind (wpAny_field e4 rfl (x := old) rfl (wpAny_bind (wpAny_setField_rec e4 (by simp) fun g5 e5 b5 => ?_)))))
  replace b5 : Heap.SameBut e g4 g5 := b5
  replace e5 : IsEnum g5 e it ((i : Int) + 1) x := e5
  refine wpAny_bind ?_
  unfold Builtin.SmallTypes.ownedTupleHandOut
  refine wpAny_bind (wpAny_setField_rec e5 (by simp) fun g6 e6 b6 => ?_)
  replace b6 : Heap.SameBut e g5 g6 := b6
  replace e6 : IsEnumOut g6 e it ((i : Int) + 1) x hp.objs.size := e6
  refine wpAny_setField_rec e6 (by simp) fun g7 e7 b7 => ?_
  replace b7 : Heap.SameBut e g6 g7 := b7
  replace e7 : IsEnumOut g7 e it ((i : Int) + 1) x hp.objs.size := e7
  have up : ∀ b o, b ≠ e -> g4.get? b = some o -> g7.get? b = some o := fun b o h1 h2 => b7.extBut b o h1 (b6.extBut b o h1 (b5.extBut b o h1 h2))
  exact wpAny_bind (wpAny_letGo (wpAny_pure ⟨_, rfl, q g7 e7 (i4.kept fun o h => up it o ne.symm h) (up _ _ (Nat.ne_of_gt el) t4) fun b o h1 h2 h3 => up b o h1 (k4 b o h1 h2 h3)⟩))
theorem enum_item {k : Kd} {e it a : Addr} {i : Nat} {its : List Value} {x old : Value} {Q : Option Value -> Shared -> Prop} (he : IsEnum s.heap e it i old) (hi : ItAt k s.heap it a i) (hs : SeqIs k s.heap a its) (hx : its[i]? = some x) (ne : e ≠ it)
    (q : ∀ h', IsEnumOut h' e it ((i : Int) + 1) x s.heap.objs.size -> ItAt k h' it a (i + 1) -> h'.get? s.heap.objs.size = some { cls := .type "tuple", data := .seq #[.int i s.toks, x] } ->
      (∀ b o, b ≠ e -> b ≠ it -> s.heap.get? b = some o -> h'.get? b = some o) -> Q (some (.ref s.heap.objs.size)) { s with heap := h', toks := s.toks + 1 }) :
    wpAny (model prog w) A (pyNext (.ref e)) Q E s := by
  have ty : s.TypeIs (.ref e) "enumerate" := ⟨_, he, rfl⟩
  unfold pyNext
  exact wpAny_bind (wpAny_attempt (wpAny_callSpecial?_slot (name := Str.ofString "__next__") ty F.slot_enumerate_next (wpAny_call_entry F.slot_enumerate_next ty F.entry_enumerate_next
      (enum_step he hi hs hx ne fun h' a b c d => wpAny_pure (q h' a b c d)) (F.args_enumerate_next_1 _))))
theorem enum_done {k : Kd} {e it a : Addr} {i : Nat} {its : List Value} {old : Value} {Q : Option Value -> Shared -> Prop} (hh : A.handled = none) (he : IsEnum s.heap e it i old) (hi : ItAt k s.heap it a i) (hs : SeqIs k s.heap a its) (hx : its.length <= i)
    (q : ∀ h', Heap.ExtBut it s.heap h' -> Q none { s with heap := h' }) : wpAny (model prog w) A (pyNext (.ref e)) Q E s := by
  have ty : s.TypeIs (.ref e) "enumerate" := ⟨_, he, rfl⟩
  unfold pyNext
  refine wpAny_bind (wpAny_attempt (wpAny_callSpecial?_slot (name := Str.ofString "__next__") ty F.slot_enumerate_next (wpAny_call_entry F.slot_enumerate_next ty F.entry_enumerate_next ?_ (F.args_enumerate_next_1 _))))
  show wpAny _ _ (field (Value.ref e) 2 >>= _) _ _ _
  refine wpAny_bind (wpAny_field he rfl (x := Value.ref it) rfl (wpAny_bind (end_seq hh hi hs hx fun h' z k1 k2 => ?_)))
  obtain ⟨o, ho, hc⟩ := k2
  exact wpAny_bind (wpAny_isInstance (T := "StopIteration") (b := true) ⟨o, ho, hc⟩ isSubtype_stop (wpAny_pure (q _ k1)))
theorem enum_new_tup (t : Addr) (items : Array Value) (n : Nat) (dct : Option Addr) (sl : Array (Option Value)) :
    Meets (Builtin.«enumerate.__new__» ⟨[.type "enumerate", .ref t], []⟩) (fun _ R s => s.heap.get? t = some { cls := .type "tuple", dict := dct, data := .seq items n, slots := sl } /\
      R (.ok (.ret (.ref (s.heap.push { cls := .type "tuple_iterator", data := .fields #[.ref t, .int 0 0] }).objs.size)))
        { s with heap := (s.heap.push { cls := .type "tuple_iterator", data := .fields #[.ref t, .int 0 0] }).push { cls := .type "enumerate", data := .fields #[.none, .bool false, .ref s.heap.objs.size, rawInt 0, .none, .none] } }) :=
  .of_wp fun prog w A R s h => by
    obtain ⟨hp, g, d, tk, os⟩ := s
    obtain ⟨ht, h⟩ := h
    have hsub := sub_enumerate
    have hT : Heap.IsTuple (Shared.heap ⟨hp, g, d, tk, os⟩) t items := ⟨_, ht, rfl, n, rfl⟩
    wp_walk using wpAny_loadPart' ht
    refine wpAny_stack_any fun st => wpAny_pure ?_
    split
    · rename_i c _ _ _ _ _
      cases (c == Value.type "enumerate") <;>
      · wp_walk using wpAny_loadPart' ht, wpAny_pyIter_tuple hT
        exact ⟨_, rfl, h⟩
    · wp_walk using wpAny_loadPart' ht, wpAny_pyIter_tuple hT
      exact ⟨_, rfl, h⟩
theorem call_enum {k : Kd} {a : Addr} {its : List Value} {Q : Value -> Shared -> Prop} (hs : SeqIs k s.heap a its)
    (q : ∀ h', IsEnum h' (s.heap.objs.size + 1) s.heap.objs.size 0 .none -> ItAt k h' s.heap.objs.size a 0 -> (∀ b o, s.heap.get? b = some o -> h'.get? b = some o) -> Q (.ref (s.heap.objs.size + 1)) { s with heap := h' }) :
    wpAny (model prog w) A (call (.type "enumerate") [.ref a]) Q E s := by
  cases k with
  | l => exact call_enumerate_list hs fun h' a b _ d => q h' a b d
  | t =>
    obtain ⟨⟨c, dct, dt, sl⟩, ht, hc, n, hd⟩ := (show s.heap.IsTuple a its.toArray from hs)
    replace hc : c = .type "tuple" := hc
    replace hd : dt = .seq its.toArray n := hd
    subst hc hd
    refine callType_new F.called_enumerate (by decide) (F.typeCall_enumerate_1 _) (F.newCall_enumerate_1 _) (fun obj => F.args_object_init_2 obj _) F.entry_enumerate_new (enum_new_tup a its.toArray n dct sl) ⟨ht, ?_⟩
    have z : (s.heap.push { cls := .type "tuple_iterator", data := .fields #[.ref a, .int 0 0] }).objs.size = s.heap.objs.size + 1 := Heap.size_push ..
    show _ /\ _
    have e1 := Heap.get?_push_size (s.heap.push { cls := .type "tuple_iterator", data := .fields #[.ref a, .int 0 0] }) (o := { cls := .type "enumerate", data := .fields #[.none, .bool false, .ref s.heap.objs.size, rawInt 0, .none, .none] }) rfl
    rw [z] at e1 ⊢
    exact ⟨⟨_, e1, rfl⟩, q _ e1 ⟨_, Heap.get?_push_of_some _ (Heap.get?_push_size _ rfl), rfl, rfl⟩ fun b o x => Heap.get?_push_of_some _ (Heap.get?_push_of_some _ x)⟩
end
def ItE (k : Kd) (K : PySem.W.Frag) (a : Addr) : It :=
  ⟨fun i H => ∃ xs x, SqK k K H a xs /\ xs[i]? = some x, fun i H x H' => ∃ p y, H p = none /\ x = .ref p /\ (∀ xs, SqK k K H a xs -> xs[i]? = some y) /\ H' = upd H p (.tup [.int i, y]), fun i H => ∃ xs, SqK k K H a xs /\ xs.length <= i⟩
theorem Inv.seq_inj {X : Cx} {pins : List (Addr × Obj)} {σ : St} {H : Hp} {s : Shared} (I : Inv X pins σ H s) {k : Kd} {a : Addr} {xs ys : List V} (h : SqK k X.K H a xs) (h' : SqK k X.K H a ys) : xs = ys := by
  cases k with
  | l => exact I.list_inj h h'
  | t => exact I.tuple_inj h h'
theorem turn_enum {P : Program} {w : World} {K : PySem.W.Frag} {elts : List Expr} {x1 : Nat} {tpos : Pos} (k : Kd) (a e it : Addr) (ne : e ≠ it) : Turn P w K (.Tuple elts x1 tpos) (ItE k K a) [e, it] e (fun i h => (∃ old, IsEnum h e it i old) /\ ItAt k h it a i) where
  mem := by simp
  obj := fun i h st b hb => by
    obtain ⟨⟨old, q⟩, r⟩ := st
    rcases List.mem_cons.mp hb with rfl | hb
    · exact ⟨_, q, fun v z => by cases z⟩
    · rw [List.mem_singleton.mp hb]; exact r.obj
  keep := fun i h h' st kk => ⟨let ⟨old, q⟩ := st.1; ⟨old, kk e (by simp) _ q⟩, st.2.kept fun o x => kk it (by simp) o x⟩
  item := by
    intro X hP hw hK hc i pins s σ H E I hf st hg
    subst hP hw hK
    obtain ⟨⟨old, he⟩, hi⟩ := st
    obtain ⟨xs, x, hq, hx⟩ := hg
    obtain ⟨its, r, hs, hz⟩ := I.seq hq
    obtain ⟨u, e1, ru⟩ := r.get hx
    refine enum_item he hi hs e1 ne fun h' a1 a2 a3 a4 => ⟨_, rfl, ?_⟩
    refine wpAny_letOwnedTupleGo_enum (s := { s with heap := h', toks := s.toks + 1 }) a1 fun h2 b1 b2 => ?_
    replace b2 : Heap.SameBut e h' h2 := b2
    have el : e < s.heap.objs.size := Heap.lt_size he
    have kk : ∀ b o, b ∉ [e, it] -> s.heap.get? b = some o -> h2.get? b = some o := fun b o hb q => by
      simp at hb
      exact b2.extBut b o hb.1 (a4 b o hb.1 hb.2 q)
    have tt : h2.get? s.heap.objs.size = some { cls := .type "tuple", data := .seq #[.int i s.toks, u] } := b2.extBut _ _ (Nat.ne_of_gt el) a3
    have fr : H s.heap.objs.size = none := I.hok.fresh (Nat.le_refl _)
    refine ⟨.ref s.heap.objs.size, upd H s.heap.objs.size (.tup [.int i, x]), I.turnNew hf kk (Nat.le_refl _) ?_, rfl, ⟨_, x, fr, rfl, fun ys hy => ?_, rfl⟩, ⟨⟨u, ?_⟩, a2.kept fun o q => b2.extBut it o ne.symm q⟩, fun b hb => ?_⟩
    · exact ⟨by show 2 <= sizeLine; decide, [.int i s.toks, u], .cons ⟨_, rfl⟩ (.cons ru .nil), ⟨_, tt, rfl, 0, rfl⟩⟩
    · rw [I.seq_inj hy hq]; exact hx
    · have : ((i + 1 : Nat) : Int) = (i : Int) + 1 := by push_cast; rfl
      rw [this]; exact b1
    · rw [upd_ne]
      · exact (hf b hb).1
      · rcases List.mem_cons.mp hb with rfl | hb
        · exact Nat.ne_of_lt el
        · rw [List.mem_singleton.mp hb]
          obtain ⟨o, q, _⟩ := hi.obj
          exact Nat.ne_of_lt (Heap.lt_size q)
  done := by
    intro X hP hw hK hc i pins s σ H E I hf st hg
    subst hP hw hK
    obtain ⟨⟨old, he⟩, hi⟩ := st
    obtain ⟨xs, hq, hx⟩ := hg
    obtain ⟨its, r, hs, hz⟩ := I.seq hq
    refine enum_done (I.ok.hd hc) he hi hs (by rw [<- r.length]; exact hx) fun h' q => ⟨rfl, I.turnM (t' := s.toks) hf fun b o hb z => q b o (fun y => hb (by simp [y])) z⟩
  self := fun _ _ _ _ _ st h => let ⟨⟨_, he⟩, _⟩ := st; wpAny_pyIter_enum he h
def iEnum (k : Kd) (K : PySem.W.Frag) (ta : TA) : TI := fun σ H R => ta σ H fun vs H1 => ∃ a xs, vs = [.ref a] /\ SqK k K H1 a xs /\ R (ItE k K a) H1
theorem boot_enumerate' : bootBuiltins "enumerate" = some (.type "enumerate") := by first | rfl | decide +kernel
theorem pi_enum {X : Cx} {elts : List Expr} {x1 : Nat} {tpos : Pos} {l : Expr} {ta : TA} {p pos : Pos} (k : Kd) (hg : Gl X "enumerate") (hm : X.mg "enumerate" = none) (ha : PA X [l] ta) (hs : starEach [l] X.env = [(false, eval l X.env)] := by rfl) :
    PI X (.Tuple elts x1 tpos) (.Call (.Name "enumerate" p) [l] [] pos) (iEnum k X.K ta) := by
  intro pins s σ H R I h
  refine Call_ (ld_blt I hg hm boot_enumerate' (PyProof.Rows.callWith_type1 (thn (ha pos pins s σ H _ I h) fun us s1 ⟨vs, H1, I1, r1, q1⟩ => ?_) hs rfl))
  obtain ⟨a, xs, rfl, hq, q⟩ := q1
  obtain ⟨u, rfl, ru⟩ := Vals.one r1
  cases (show u = Value.ref a from ru)
  obtain ⟨its, r, hsq, hz⟩ := I1.seq hq
  refine call_enum hsq fun h' a1 a2 a3 => wpAny_pyIter_enum (s := { s1 with heap := h' }) a1 ?_
  refine ⟨s1.heap.objs.size + 1, [s1.heap.objs.size + 1, s1.heap.objs.size], _, _, H1, rfl, I1.kept (t' := s1.toks) a3, turn_enum k a _ _ (Nat.succ_ne_self _), ⟨⟨_, a1⟩, a2⟩, fun b hb => ?_, q⟩
  rcases List.mem_cons.mp hb with rfl | hb
  · exact I1.fpOk (Nat.le_succ _) (I1.hok.fresh (Nat.le_succ _))
  · rw [List.mem_singleton.mp hb]; exact I1.fpOk (Nat.le_refl _) (I1.hok.fresh (Nat.le_refl _))
open AutoSeq1 (wpAny_loadPart')
structure ZipAt (h : Heap) (k1 k2 : Kd) (z TI TO i1 i2 l1 l2 : Addr) (f0 : Value) (n : Nat) : Prop where
  zz : IsZip h z TI TO f0
  ti : IsPair h TI (.ref i1) (.ref i2)
  to : ∃ a b, IsPair h TO a b
  a1 : ItAt k1 h i1 l1 n
  a2 : ItAt k2 h i2 l2 n
structure ZipNe (z TI TO i1 i2 : Addr) : Prop where
  TIz : TI ≠ z
  TOz : TO ≠ z
  i1z : i1 ≠ z
  i2z : i2 ≠ z
  TITO : TI ≠ TO
  TIi1 : TI ≠ i1
  TIi2 : TI ≠ i2
  TOi1 : TO ≠ i1
  TOi2 : TO ≠ i2
  i12 : i1 ≠ i2
section
variable {prog : Program} {w : World} {A : Around} {E : Value -> Shared -> Prop} {s : Shared}
theorem zip_step {k1 k2 : Kd} {z TI TO i1 i2 l1 l2 : Addr} {n : Nat} {xs ys : List Value} {x y : Value} {Q : Value -> Shared -> Prop} (D : ZipNe z TI TO i1 i2) (Z : ZipAt s.heap k1 k2 z TI TO i1 i2 l1 l2 .none n)
    (L1 : ∀ h', (∀ b o, b ≠ z -> b ≠ TO -> b ≠ i1 -> b ≠ i2 -> s.heap.get? b = some o -> h'.get? b = some o) -> SeqIs k1 h' l1 xs) (L2 : ∀ h', (∀ b o, b ≠ z -> b ≠ TO -> b ≠ i1 -> b ≠ i2 -> s.heap.get? b = some o -> h'.get? b = some o) -> SeqIs k2 h' l2 ys)
    (hx : xs[n]? = some x) (hy : ys[n]? = some y)
    (q : ∀ h', ZipAt h' k1 k2 z TI TO i1 i2 l1 l2 (rawInt s.heap.objs.size) (n + 1) -> IsPair h' s.heap.objs.size x y ->
      (∀ c o, c ≠ z -> c ≠ TO -> c ≠ i1 -> c ≠ i2 -> s.heap.get? c = some o -> h'.get? c = some o) -> Q (.ref s.heap.objs.size) { s with heap := h' }) :
    wpAny (model prog w) A (Builtin.«zip.__next__» ⟨[.ref z], []⟩) (fun fin s' => ∃ v, fin = .done (.ret v) /\ Q v s') E s := by
  obtain ⟨zz, ti, ⟨a, b, to⟩, a1, a2⟩ := Z
  show wpAny _ _ (field (Value.ref z) 2 >>= _) _ _ _
  refine wpAny_bind (wpAny_field zz rfl (x := Value.bool false) rfl (wpAny_bind (wpAny_field zz rfl (x := Value.ref TI) rfl (wpAny_bind (wpAny_seqItems ti rfl (wpAny_bind ?_))))))
  unfold Builtin.SmallTypes.ownedTupleIsFree
  refine wpAny_bind (wpAny_field zz rfl (x := Value.none) rfl (wpAny_pure ?_))
  simp only [if_true]
  refine wpAny_bind (wpAny_rule (wpAny_bind (wpAny_field zz rfl (x := Value.ref TO) rfl (wpAny_bind (wpAny_setField_rec zz (by simp) fun g1 z1 b1 => wpAny_bind ?_)))))
  replace z1 : IsZip g1 z TI TO .ellipsis := z1
  replace b1 : Heap.SameBut z s.heap g1 := b1
  simp only [List.zipIdx_cons, List.zipIdx_nil, List.forIn_cons, List.forIn_nil]
  have K1 : ∀ c o, c ≠ z -> c ≠ TO -> c ≠ i1 -> c ≠ i2 -> s.heap.get? c = some o -> g1.get? c = some o := fun c o h1 _ _ _ e => b1.extBut c o h1 e
  refine wpAny_bind (wpAny_bind (wpAny_onRaise (wpAny_bind (next_seq (s := { s with heap := g1 }) (a1.kept fun o e => b1.extBut _ o D.i1z e) (L1 g1 K1) hx fun g2 j1 b2 => wpAny_pure ?_))))
  replace b2 : Heap.SameBut i1 g1 g2 := b2
  have t2 : IsPair g2 TO a b := b2.extBut _ _ D.TOi1 (b1.extBut _ _ D.TOz to)
  refine wpAny_bind (wpAny_seqItems t2 rfl (wpAny_bind (wpAny_updateSeq_pair t2 fun g3 t3 b3 => ?_)))
  replace t3 : IsPair g3 TO x b := t3
  replace b3 : Heap.SameBut TO g2 g3 := b3
  refine wpAny_bind (wpAny_letGo (wpAny_pure ?_))
  have K3 : ∀ c o, c ≠ z -> c ≠ TO -> c ≠ i1 -> c ≠ i2 -> s.heap.get? c = some o -> g3.get? c = some o := fun c o h1 h2 h3 h4 e => b3.extBut c o h2 (b2.extBut c o h3 (K1 c o h1 h2 h3 h4 e))
  have a3 : ItAt k2 g3 i2 l2 n := a2.kept fun o e => b3.extBut _ o D.TOi2.symm (b2.extBut _ o D.i12.symm (b1.extBut _ o D.i2z e))
  refine wpAny_bind (wpAny_bind (wpAny_onRaise (wpAny_bind (next_seq (s := { s with heap := g3 }) a3 (L2 g3 K3) hy fun g4 j2 b4 => wpAny_pure ?_))))
  replace b4 : Heap.SameBut i2 g3 g4 := b4
  have t4 : IsPair g4 TO x b := b4.extBut _ _ D.TOi2 t3
  refine wpAny_bind (wpAny_seqItems t4 rfl (wpAny_bind (wpAny_updateSeq_pair t4 fun g5 t5 b5 => ?_)))
  replace t5 : IsPair g5 TO x y := t5
  replace b5 : Heap.SameBut TO g4 g5 := b5
  refine wpAny_bind (wpAny_letGo (wpAny_pure (wpAny_pure (wpAny_bind (wpAny_seqItems t5 rfl (wpAny_bind (wpAny_newTuple ?_)))))))
  have sz : g5.objs.size = s.heap.objs.size := by rw [b5.1, b4.1, b3.1, b2.1, b1.1]
  have z5 : IsZip g5 z TI TO .ellipsis := b5.extBut _ _ D.TOz.symm (b4.extBut _ _ D.i2z.symm (b3.extBut _ _ D.TOz.symm (b2.extBut _ _ D.i1z.symm z1)))
  have K5 : ∀ c o, c ≠ z -> c ≠ TO -> c ≠ i1 -> c ≠ i2 -> s.heap.get? c = some o -> g5.get? c = some o := fun c o h1 h2 h3 h4 e => b5.extBut c o h2 (b4.extBut c o h4 (K3 c o h1 h2 h3 h4 e))
  have m1 : ItAt k1 g5 i1 l1 (n + 1) := j1.kept fun o e => b5.extBut _ o D.TOi1.symm (b4.extBut _ o D.i12 (b3.extBut _ o D.TOi1.symm e))
  have m2 : ItAt k2 g5 i2 l2 (n + 1) := j2.kept fun o e => b5.extBut _ o D.TOi2.symm e
  have zl : z < g5.objs.size := Heap.lt_size z5
  show wpAny _ _ (Builtin.SmallTypes.ownedTupleHandOut (Value.ref z) (Value.ref g5.objs.size) >>= _) _ _ _
  refine wpAny_bind ?_
  unfold Builtin.SmallTypes.ownedTupleHandOut
  have z6 : IsZip (g5.push { cls := .type "tuple", data := .seq #[x, y] }) z TI TO .ellipsis := Heap.get?_push_of_some _ z5
  refine wpAny_bind (wpAny_setField_rec z6 (by simp) fun g7 z7 b7 => wpAny_setField_rec z7 (by simp) fun g8 z8 b8 => ?_)
  replace z8 : IsZip g8 z TI TO (rawInt g5.objs.size) := z8
  replace b8 : Heap.SameBut z g7 g8 := b8
  replace b7 : Heap.SameBut z (g5.push { cls := .type "tuple", data := .seq #[x, y] }) g7 := b7
  have up : ∀ c o, c ≠ z -> g5.get? c = some o -> g8.get? c = some o := fun c o h e => b8.extBut _ _ h (b7.extBut _ _ h (Heap.get?_push_of_some _ e))
  have t8 : IsPair g8 g5.objs.size x y := b8.extBut _ _ (Nat.ne_of_gt zl) (b7.extBut _ _ (Nat.ne_of_gt zl) (Heap.get?_push_size _ rfl))
  rw [sz] at z8 t8
  refine wpAny_pure ⟨_, rfl, ?_⟩
  show Q (Value.ref g5.objs.size) _
  rw [sz]
  exact q g8 ⟨z8, up _ _ D.TIz (K5 _ _ D.TIz D.TITO D.TIi1 D.TIi2 ti), ⟨_, _, up _ _ D.TOz t5⟩, m1.kept fun o e => up _ o D.i1z e, m2.kept fun o e => up _ o D.i2z e⟩ t8 fun c o h1 h2 h3 h4 e => up c o h1 (K5 c o h1 h2 h3 h4 e)
theorem zip_item {k1 k2 : Kd} {z TI TO i1 i2 l1 l2 : Addr} {n : Nat} {xs ys : List Value} {x y : Value} {Q : Option Value -> Shared -> Prop} (D : ZipNe z TI TO i1 i2) (Z : ZipAt s.heap k1 k2 z TI TO i1 i2 l1 l2 .none n)
    (L1 : ∀ h', (∀ b o, b ≠ z -> b ≠ TO -> b ≠ i1 -> b ≠ i2 -> s.heap.get? b = some o -> h'.get? b = some o) -> SeqIs k1 h' l1 xs) (L2 : ∀ h', (∀ b o, b ≠ z -> b ≠ TO -> b ≠ i1 -> b ≠ i2 -> s.heap.get? b = some o -> h'.get? b = some o) -> SeqIs k2 h' l2 ys)
    (hx : xs[n]? = some x) (hy : ys[n]? = some y)
    (q : ∀ h', ZipAt h' k1 k2 z TI TO i1 i2 l1 l2 (rawInt s.heap.objs.size) (n + 1) -> IsPair h' s.heap.objs.size x y ->
      (∀ c o, c ≠ z -> c ≠ TO -> c ≠ i1 -> c ≠ i2 -> s.heap.get? c = some o -> h'.get? c = some o) -> Q (some (.ref s.heap.objs.size)) { s with heap := h' }) :
    wpAny (model prog w) A (pyNext (.ref z)) Q E s := by
  have ty : s.TypeIs (.ref z) "zip" := ⟨_, Z.zz, rfl⟩
  unfold pyNext
  exact wpAny_bind (wpAny_attempt (wpAny_callSpecial?_slot (name := Str.ofString "__next__") ty F.slot_zip_next (wpAny_call_entry F.slot_zip_next ty F.entry_zip_next
      (zip_step D Z L1 L2 hx hy fun h' a b c => wpAny_pure (q h' a b c)) (F.args_zip_next_1 _))))
theorem zip_done {k1 k2 : Kd} {z TI TO i1 i2 l1 l2 : Addr} {n : Nat} {xs : List Value} {Q : Option Value -> Shared -> Prop} (hh : A.handled = none) (D : ZipNe z TI TO i1 i2) (Z : ZipAt s.heap k1 k2 z TI TO i1 i2 l1 l2 .none n)
    (L1 : ∀ h', (∀ b o, b ≠ z -> b ≠ TO -> b ≠ i1 -> b ≠ i2 -> s.heap.get? b = some o -> h'.get? b = some o) -> SeqIs k1 h' l1 xs) (hx : xs.length <= n)
    (q : ∀ h', (∀ c o, c ≠ z -> c ≠ TO -> c ≠ i1 -> c ≠ i2 -> s.heap.get? c = some o -> h'.get? c = some o) -> Q none { s with heap := h' }) : wpAny (model prog w) A (pyNext (.ref z)) Q E s := by
  have ty : s.TypeIs (.ref z) "zip" := ⟨_, Z.zz, rfl⟩
  obtain ⟨zz, ti, ⟨a, b, to⟩, a1, a2⟩ := Z
  unfold pyNext
  refine wpAny_bind (wpAny_attempt (wpAny_callSpecial?_slot (name := Str.ofString "__next__") ty F.slot_zip_next (wpAny_call_entry F.slot_zip_next ty F.entry_zip_next ?_ (F.args_zip_next_1 _))))
  show wpAny _ _ (field (Value.ref z) 2 >>= _) _ _ _
  refine wpAny_bind (wpAny_field zz rfl (x := Value.bool false) rfl (wpAny_bind (wpAny_field zz rfl (x := Value.ref TI) rfl (wpAny_bind (wpAny_seqItems ti rfl (wpAny_bind ?_))))))
  unfold Builtin.SmallTypes.ownedTupleIsFree
  refine wpAny_bind (wpAny_field zz rfl (x := Value.none) rfl (wpAny_pure ?_))
  simp only [if_true]
  refine wpAny_bind (wpAny_rule (wpAny_bind (wpAny_field zz rfl (x := Value.ref TO) rfl (wpAny_bind (wpAny_setField_rec zz (by simp) fun g1 z1 b1 => wpAny_bind ?_)))))
  replace z1 : IsZip g1 z TI TO .ellipsis := z1
  replace b1 : Heap.SameBut z s.heap g1 := b1
  simp only [List.zipIdx_cons, List.zipIdx_nil, List.forIn_cons, List.forIn_nil]
  have K1 : ∀ c o, c ≠ z -> c ≠ TO -> c ≠ i1 -> c ≠ i2 -> s.heap.get? c = some o -> g1.get? c = some o := fun c o h1 _ _ _ e => b1.extBut c o h1 e
  refine wpAny_bind (wpAny_bind (wpAny_onRaise (wpAny_bind (end_seq (s := { s with heap := g1 }) hh (a1.kept fun o e => b1.extBut _ o D.i1z e) (L1 g1 K1) hx fun g2 e b2 he => ?_))))
  replace b2 : Heap.ExtBut i1 g1 g2 := b2
  obtain ⟨oe, hoe, hce⟩ := he
  have z2 : IsZip g2 z TI TO .ellipsis := b2 _ _ D.i1z.symm z1
  have ez : e ≠ z := fun x => by subst x; rw [z2] at hoe; cases hoe; simp at hce
  refine wpAny_setField_rec z2 (by simp) fun g3 _ b3 => ?_
  replace b3 : Heap.SameBut z g2 g3 := b3
  refine wpAny_bind (wpAny_isInstance (T := "StopIteration") (b := true) ⟨oe, b3.extBut _ _ ez hoe, hce⟩ isSubtype_stop (wpAny_pure (q g3 fun c o h1 h2 h3 h4 x => b3.extBut _ _ h1 (b2 _ _ h3 (b1.extBut _ _ h1 x)))))
theorem zip_go {elts : List Expr} {x1 : Nat} {pos : Pos} {z TI TO T : Addr} {Q : Unit -> Shared -> Prop} (hz : IsZip s.heap z TI TO (rawInt T))
    (q : ∀ h', IsZip h' z TI TO .none -> Heap.SameBut z s.heap h' -> Q () { s with heap := h' }) : wpAny (model prog w) A (letOwnedTupleGo (.Tuple elts x1 pos) (.ref z) (.ref T)) Q E s := wpAny_letOwnedTupleGo_zip hz q
abbrev zp1 (k1 : Kd) (h : Heap) (l1 : Addr) : Heap := h.push { cls := .type (iterTy k1), data := .fields #[.ref l1, .int 0 0] }
abbrev zp2 (k1 k2 : Kd) (h : Heap) (l1 l2 : Addr) : Heap := (zp1 k1 h l1).push { cls := .type (iterTy k2), data := .fields #[.ref l2, .int 0 0] }
abbrev zp3 (k1 k2 : Kd) (h : Heap) (l1 l2 : Addr) : Heap := (zp2 k1 k2 h l1 l2).push { cls := .type "tuple", data := .seq #[.ref h.objs.size, .ref (zp1 k1 h l1).objs.size] }
abbrev zp4 (k1 k2 : Kd) (h : Heap) (l1 l2 : Addr) : Heap := (zp3 k1 k2 h l1 l2).push { cls := .type "tuple", data := .seq #[.none, .none] }
abbrev zp5 (k1 k2 : Kd) (h : Heap) (l1 l2 : Addr) : Heap := (zp4 k1 k2 h l1 l2).push { cls := .type "zip", data := .fields #[.none, .bool false, .bool false, .ref (zp2 k1 k2 h l1 l2).objs.size, .ref (zp3 k1 k2 h l1 l2).objs.size] }
theorem zip_new (k1 k2 : Kd) (l1 l2 : Addr) (xs ys : List Value) :
    Meets (Builtin.«zip.__new__» ⟨[.type "zip", .ref l1, .ref l2], []⟩) (fun _ R s => SeqIs k1 s.heap l1 xs /\ SeqIs k2 s.heap l2 ys /\
      R (.ok (.ret (.ref (zp4 k1 k2 s.heap l1 l2).objs.size))) { s with heap := zp5 k1 k2 s.heap l1 l2 }) :=
  .of_wp fun prog w A R s h => by
    obtain ⟨hp, g, d, tk, os⟩ := s
    obtain ⟨h1, h2, h⟩ := h
    have hsub := sub_zip
    have hL1 : SeqIs k1 (Shared.heap ⟨hp, g, d, tk, os⟩) l1 xs := h1
    have hL2 : SeqIs k2 (Shared.heap ⟨zp1 k1 hp l1, g, d, tk, os⟩) l2 ys := h2.kept fun o e => Heap.get?_push_of_some _ e
    wp_walk using iter_seq hL1, iter_seq hL2
    exact ⟨_, rfl, h⟩
theorem call_zip {k1 k2 : Kd} {l1 l2 : Addr} {xs ys : List Value} {Q : Value -> Shared -> Prop} (h1 : SeqIs k1 s.heap l1 xs) (h2 : SeqIs k2 s.heap l2 ys)
    (q : ∀ h', ZipAt h' k1 k2 (s.heap.objs.size + 4) (s.heap.objs.size + 2) (s.heap.objs.size + 3) s.heap.objs.size (s.heap.objs.size + 1) l1 l2 .none 0 ->
      (∀ c o, s.heap.get? c = some o -> h'.get? c = some o) -> Q (.ref (s.heap.objs.size + 4)) { s with heap := h' }) :
    wpAny (model prog w) A (call (.type "zip") [.ref l1, .ref l2]) Q E s := by
  refine callType_new F.called_zip (by decide) (F.typeCall_zip_2 _ _) (F.newCall_zip_2 _ _) (fun obj => F.args_object_init_3 obj _ _) F.entry_zip_new (zip_new k1 k2 l1 l2 xs ys) ⟨h1, h2, ?_⟩
  have z1 : (zp1 k1 s.heap l1).objs.size = s.heap.objs.size + 1 := Heap.size_push ..
  have z2 : (zp2 k1 k2 s.heap l1 l2).objs.size = s.heap.objs.size + 2 := by rw [Heap.size_push, z1]
  have z3 : (zp3 k1 k2 s.heap l1 l2).objs.size = s.heap.objs.size + 3 := by rw [Heap.size_push, z2]
  have z4 : (zp4 k1 k2 s.heap l1 l2).objs.size = s.heap.objs.size + 4 := by rw [Heap.size_push, z3]
  have u : ∀ {h : Heap} {o : Obj} {b : Addr} {v : Obj}, h.get? b = some v -> (h.push o).get? b = some v := fun e => Heap.get?_push_of_some _ e
  have g5 : (zp5 k1 k2 s.heap l1 l2).get? (zp4 k1 k2 s.heap l1 l2).objs.size = some _ := Heap.get?_push_size _ rfl
  have g4 : (zp5 k1 k2 s.heap l1 l2).get? (zp3 k1 k2 s.heap l1 l2).objs.size = some _ := u (Heap.get?_push_size _ rfl)
  have g3 : (zp5 k1 k2 s.heap l1 l2).get? (zp2 k1 k2 s.heap l1 l2).objs.size = some _ := u (u (Heap.get?_push_size _ rfl))
  have g2 : ItAt k2 (zp5 k1 k2 s.heap l1 l2) (zp1 k1 s.heap l1).objs.size l2 0 := (iter_at (k := k2) (h := zp1 k1 s.heap l1) (a := l2)).kept fun o e => u (u (u e))
  have g1 : ItAt k1 (zp5 k1 k2 s.heap l1 l2) s.heap.objs.size l1 0 := (iter_at (k := k1) (h := s.heap) (a := l1)).kept fun o e => u (u (u (u e)))
  show _ /\ _
  rw [z2, z3, z4] at g5
  rw [z1, z2] at g3
  rw [z3] at g4
  rw [z1] at g2
  rw [z4]
  exact ⟨⟨_, g5, rfl⟩, q _ ⟨g5, g3, ⟨_, _, g4⟩, g1, g2⟩ fun c o x => u (u (u (u (u x))))⟩
end
def ItZ (k1 k2 : Kd) (K : PySem.W.Frag) (a b : Addr) : It :=
  ⟨fun i H => ∃ xs ys x y, SqK k1 K H a xs /\ SqK k2 K H b ys /\ xs[i]? = some x /\ ys[i]? = some y,
   fun i H v H' => ∃ p x y, H p = none /\ v = .ref p /\ (∀ xs, SqK k1 K H a xs -> xs[i]? = some x) /\ (∀ ys, SqK k2 K H b ys -> ys[i]? = some y) /\ H' = upd H p (.tup [x, y]),
   fun i H => ∃ xs, SqK k1 K H a xs /\ xs.length <= i⟩
theorem Inv.seq_ne {X : Cx} {pins : List (Addr × Obj)} {σ : St} {H : Hp} {s : Shared} (I : Inv X pins σ H s) {k : Kd} {a b : Addr} {xs : List V} (h : SqK k X.K H a xs) (f : FpOk X pins H b) : a ≠ b := by
  rintro rfl
  have hn := f.1
  have young : ∀ o, X.K.lookup a = some o -> False := fun o e => by
    have e1 := I.mod.kin a o e
    rcases f.2.2.2.1 with z | z
    · exact I.ok.noex a o e1 z
    · exact absurd (Nat.lt_of_lt_of_le (Heap.lt_size e1) (Nat.le_trans I.ok.bsz z)) (Nat.lt_irrefl _)
  cases k with
  | l =>
    rcases h with h | ⟨o, _, _, e, _⟩
    · rcases h with h | ⟨o, h⟩ <;> (rw [hn] at h; cases h)
    · exact young o e
  | t =>
    rcases h with h | ⟨o, _, _, e, _⟩
    · rcases h with h | ⟨o, h⟩ <;> (rw [hn] at h; cases h)
    · exact young o e
theorem turn_zip {P : Program} {w : World} {K : PySem.W.Frag} {elts : List Expr} {x1 : Nat} {tpos : Pos} (k1 k2 : Kd) (a b z TI TO i1 i2 : Addr) (D : ZipNe z TI TO i1 i2) :
    Turn P w K (.Tuple elts x1 tpos) (ItZ k1 k2 K a b) [z, TI, TO, i1, i2] z (fun i h => ZipAt h k1 k2 z TI TO i1 i2 a b .none i) where
  mem := by simp
  obj := fun i h st c hc => by
    obtain ⟨zz, ti, ⟨u, v, to⟩, a1, a2⟩ := st
    simp at hc
    rcases hc with rfl | rfl | rfl | rfl | rfl
    · exact ⟨_, zz, fun v z => by cases z⟩
    · exact ⟨_, ti, fun v z => by cases z⟩
    · exact ⟨_, to, fun v z => by cases z⟩
    · exact a1.obj
    · exact a2.obj
  keep := fun i h h' st kk => by
    obtain ⟨zz, ti, ⟨u, v, to⟩, a1, a2⟩ := st
    exact ⟨kk z (by simp) _ zz, kk TI (by simp) _ ti, ⟨u, v, kk TO (by simp) _ to⟩, a1.kept fun o e => kk i1 (by simp) o e, a2.kept fun o e => kk i2 (by simp) o e⟩
  item := by
    intro X hP hw hK hc i pins s σ H E I hf st hg
    subst hP hw hK
    obtain ⟨xs, ys, x, y, hq1, hq2, hx, hy⟩ := hg
    obtain ⟨its1, r1, s1, _⟩ := I.seq hq1
    obtain ⟨its2, r2, s2, _⟩ := I.seq hq2
    obtain ⟨u1, e1, ru1⟩ := r1.get hx
    obtain ⟨u2, e2, ru2⟩ := r2.get hy
    have nz := hf z (by simp)
    have nO := hf TO (by simp)
    have n1 := hf i1 (by simp)
    have n2 := hf i2 (by simp)
    refine zip_item D st (fun h' kk => s1.kept fun o e => kk a o (I.seq_ne hq1 nz) (I.seq_ne hq1 nO) (I.seq_ne hq1 n1) (I.seq_ne hq1 n2) e)
      (fun h' kk => s2.kept fun o e => kk b o (I.seq_ne hq2 nz) (I.seq_ne hq2 nO) (I.seq_ne hq2 n1) (I.seq_ne hq2 n2) e) e1 e2 fun h' c1 c2 c3 => ⟨_, rfl, ?_⟩
    refine zip_go (s := { s with heap := h' }) c1.zz fun h2 d1 d2 => ?_
    replace d2 : Heap.SameBut z h' h2 := d2
    have zl : z < s.heap.objs.size := Heap.lt_size st.zz
    have lt : ∀ c ∈ [z, TI, TO, i1, i2], c < s.heap.objs.size := fun c hc => by
      obtain ⟨zz, ti, ⟨u, v, to⟩, a1, a2⟩ := st
      simp at hc
      rcases hc with rfl | rfl | rfl | rfl | rfl
      · exact zl
      · exact Heap.lt_size ti
      · exact Heap.lt_size to
      · obtain ⟨o, e, _⟩ := a1.obj; exact Heap.lt_size e
      · obtain ⟨o, e, _⟩ := a2.obj; exact Heap.lt_size e
    have kk : ∀ c o, c ∉ [z, TI, TO, i1, i2] -> s.heap.get? c = some o -> h2.get? c = some o := fun c o hc q => by
      simp at hc
      exact d2.extBut c o hc.1 (c3 c o hc.1 hc.2.2.1 hc.2.2.2.1 hc.2.2.2.2 q)
    have tt : IsPair h2 s.heap.objs.size u1 u2 := d2.extBut _ _ (Nat.ne_of_gt zl) c2
    have fr : H s.heap.objs.size = none := I.hok.fresh (Nat.le_refl _)
    refine ⟨.ref s.heap.objs.size, upd H s.heap.objs.size (.tup [x, y]), I.turnNew (t' := s.toks) hf kk (Nat.le_refl _) ?_, rfl, ⟨_, x, y, fr, rfl, fun vs hv => ?_, fun vs hv => ?_, rfl⟩, ?_, fun c hc => ?_⟩
    · exact ⟨by show 2 <= sizeLine; decide, [u1, u2], .cons ru1 (.cons ru2 .nil), ⟨_, tt, rfl, 0, rfl⟩⟩
    · rw [I.seq_inj hv hq1]; exact hx
    · rw [I.seq_inj hv hq2]; exact hy
    · obtain ⟨zz, ti, ⟨u, v, to⟩, a1, a2⟩ := c1
      exact ⟨d1, d2.extBut _ _ D.TIz ti, ⟨u, v, d2.extBut _ _ D.TOz to⟩, a1.kept fun o e => d2.extBut _ o D.i1z e, a2.kept fun o e => d2.extBut _ o D.i2z e⟩
    · rw [upd_ne (Nat.ne_of_lt (lt c hc))]
      exact (hf c hc).1
  done := by
    intro X hP hw hK hc i pins s σ H E I hf st hg
    subst hP hw hK
    obtain ⟨xs, hq1, hx⟩ := hg
    obtain ⟨its1, r1, s1, _⟩ := I.seq hq1
    have nz := hf z (by simp)
    have nO := hf TO (by simp)
    have n1 := hf i1 (by simp)
    have n2 := hf i2 (by simp)
    exact zip_done (I.ok.hd hc) D st (fun h' kk => s1.kept fun o e => kk a o (I.seq_ne hq1 nz) (I.seq_ne hq1 nO) (I.seq_ne hq1 n1) (I.seq_ne hq1 n2) e) (by rw [<- r1.length]; exact hx)
      fun h' kk => ⟨rfl, I.turnM (t' := s.toks) hf fun c o hc q => by simp at hc; exact kk c o hc.1 hc.2.2.1 hc.2.2.2.1 hc.2.2.2.2 q⟩
  self := fun _ _ _ _ _ st h => wpAny_pyIter_zip st.zz h
def iZip (k1 k2 : Kd) (K : PySem.W.Frag) (ta : TA) : TI := fun σ H R => ta σ H fun vs H1 => ∃ a b xs ys, vs = [.ref a, .ref b] /\ SqK k1 K H1 a xs /\ SqK k2 K H1 b ys /\ R (ItZ k1 k2 K a b) H1
theorem boot_zip' : bootBuiltins "zip" = some (.type "zip") := by first | rfl | decide +kernel
theorem zipNe (n : Nat) : ZipNe (n + 4) (n + 2) (n + 3) n (n + 1) := by
  refine ⟨?_, ?_, ?_, ?_, ?_, ?_, ?_, ?_, ?_, ?_⟩ <;> (intro z; have z' : (_ : Nat) = _ := z; omega)
theorem pi_zip {X : Cx} {elts : List Expr} {x1 : Nat} {tpos : Pos} {l m : Expr} {ta : TA} {p pos : Pos} (k1 k2 : Kd) (hg : Gl X "zip") (hm : X.mg "zip" = none) (ha : PA X [l, m] ta)
    (hs : starEach [l, m] X.env = [(false, eval l X.env), (false, eval m X.env)] := by rfl) (hs2 : starEach [m] X.env = [(false, eval m X.env)] := by rfl) :
    PI X (.Tuple elts x1 tpos) (.Call (.Name "zip" p) [l, m] [] pos) (iZip k1 k2 X.K ta) := by
  intro pins s σ H R I h
  refine Call_ (ld_blt I hg hm boot_zip' (PyProof.Rows.callWith_type1 (thn (ha pos pins s σ H _ I h) fun us s1 ⟨vs, H1, I1, r1, q1⟩ => ?_) (by rw [hs, hs2]) (by rw [hs2]; rfl)))
  obtain ⟨a, b, xs, ys, rfl, hq1, hq2, q⟩ := q1
  obtain ⟨u, v, rfl, ru, rv⟩ := Vals.two r1
  cases (show u = Value.ref a from ru)
  cases (show v = Value.ref b from rv)
  obtain ⟨its1, _, t1, _⟩ := I1.seq hq1
  obtain ⟨its2, _, t2, _⟩ := I1.seq hq2
  refine call_zip t1 t2 fun h' c1 c2 => wpAny_pyIter_zip (s := { s1 with heap := h' }) c1.zz ?_
  refine ⟨_, [s1.heap.objs.size + 4, s1.heap.objs.size + 2, s1.heap.objs.size + 3, s1.heap.objs.size, s1.heap.objs.size + 1], _, _, H1, rfl, I1.kept (t' := s1.toks) c2,
    turn_zip k1 k2 a b _ _ _ _ _ (zipNe s1.heap.objs.size), c1, fun c hc => ?_, q⟩
  have le : s1.heap.objs.size <= c := by
    simp at hc
    rcases hc with rfl | rfl | rfl | rfl | rfl
    · exact Nat.le_add_right _ _
    · exact Nat.le_add_right _ _
    · exact Nat.le_add_right _ _
    · exact Nat.le_refl _
    · exact Nat.le_add_right _ _
  exact I1.fpOk le (I1.hok.fresh le)
structure Src (K : PySem.W.Frag) (mg : Str -> Option Value) (x : Str) (st : Stmt) (ps : List Str) : Prop where
  ex : ∃ f fd, Fun K x x st f fd /\ Binds K fd ps [] /\ mg x = some (.ref f)
structure Def (P : Program) (w : World) (K : PySem.W.Frag) (mg : Str -> Option Value) (base : Heap) (k : Nat) (x : Str) (ps : List Str) (sp : Sp) : Prop where
  ex : ∃ f fd, FnOk P w K mg base CX0 k f fd ps sp /\ Binds K fd ps [] /\ mg x = some (.ref f) /\ PySem.W.keepIn K (.ref f) = true
theorem Src.def {P : Program} {w : World} {K : PySem.W.Frag} {mg : Str -> Option Value} {base : Heap} {k : Nat} {x : Str} {st : Stmt} {N ps : List Str} {sp : Sp} (S : Src K mg x st ps) (sc : FnScope N ps (defScope st)) (len : ∀ vs H Q E, sp vs H Q E -> vs.length = ps.length)
    (hbody : ∀ (f : Addr) (cdv : Value) (A : Around) (outer : List Env) (s : Shared) (H : Hp) (vs : List V) (Q : VK) (E : XK), Room k (A.deeper (envOfC x (defScope st) s.heap.objs.size f cdv)) -> sp vs H Q E ->
      ∃ t, PSs (cxOf CX0 P w K mg base N x (defScope st) f cdv A outer s H E).nox (defBody st) t /\ t { nx := fun _ H' => Q .non H', rt := Q } (start N vs) H) : Def P w K mg base (k + 1) x ps sp := by
  obtain ⟨f, fd, F, b, m⟩ := S.ex
  exact ⟨f, fd, F.ok sc len (hbody f), b, m, F.kp⟩
theorem pe_def {X : Cx} {k : Nat} {x : Str} {ps : List Str} {sp : Sp} {e : Expr} {es : List Expr} {t : TA} {p pos : Pos} (D : Def X.prog X.w X.K X.mg X.base k x ps sp) (hr : Room k X.A) (hg : Gl X x) (ha : PA X (e :: es) t)
    (hdb : (x == ("__debug__" : Str)) = false := by decide) (he : starEach (e :: es) X.env = (false, eval e X.env) :: starEach es X.env := by rfl) (hpl : (backTo pos (starEach es X.env)).any (·.1) = false := by rfl) :
    PE X (.Call (.Name x p) (e :: es) [] pos) (tCall sp [] E0 t) := by
  obtain ⟨f, fd, F, b, m, kp⟩ := D.ex
  exact pe_call F hr hg m kp b .nil pass0 ha hdb he hpl
theorem Same.tup {K : PySem.W.Frag} {H H' : Hp} {a : Addr} {xs : List V} (e : Same H H') (h : SqT K H a xs) : SqT K H' a xs := by
  rcases h with (h | ⟨o, h⟩) | h
  · exact .inl (.inl (e _ _ h))
  · exact .inl (.inr ⟨o, e _ _ h⟩)
  · exact .inr h
theorem Same.seqK {K : PySem.W.Frag} {H H' : Hp} {k : Kd} {a : Addr} {xs : List V} (e : Same H H') (h : SqK k K H a xs) : SqK k K H' a xs := by
  cases k with
  | l => exact e.seq h
  | t => exact e.tup h
theorem Same.new {H : Hp} {p : Addr} {o : HO} (h : H p = none) : Same H (upd H p o) := fun b u e => by rw [upd_ne (ne_of_none e h)]; exact e
theorem SqK.or {K : PySem.W.Frag} {H : Hp} {k : Kd} {a : Addr} {xs : List V} (h : SqK k K H a xs) : SqL K H a xs \/ SqT K H a xs := by
  cases k with
  | l => exact .inl h
  | t => exact .inr h
theorem Paired.at {α β : Type} {F : α -> β -> Prop} : ∀ {l₁ : List α} {l₂ : List β}, Paired F l₁ l₂ -> ∀ {i : Nat} {a : α}, l₁[i]? = some a -> ∃ b, l₂[i]? = some b /\ F a b
  | _, _, .nil, i, a, e => by simp at e
  | _, _, .cons r t, 0, a, e => by simp at e; subst e; exact ⟨_, rfl, r⟩
  | _, _, .cons r t, i + 1, a, e => by
    obtain ⟨b, h1, h2⟩ := Paired.at t (i := i) (by simpa using e)
    exact ⟨b, by simpa using h1, h2⟩
theorem Paired.snoc {α β : Type} {F : α -> β -> Prop} : ∀ {l₁ : List α} {l₂ : List β}, Paired F l₁ l₂ -> ∀ {a : α} {b : β}, F a b -> Paired F (l₁ ++ [a]) (l₂ ++ [b])
  | _, _, .nil, _, _, h => .cons h .nil
  | _, _, .cons r t, _, _, h => .cons r (Paired.snoc t h)
theorem take_succ_of {α : Type} {l : List α} {i : Nat} {a : α} (h : l[i]? = some a) : l.take (i + 1) = l.take i ++ [a] := by
  rw [List.take_add_one, h]; rfl
def ItK (k : Kd) (K : PySem.W.Frag) (a : Addr) : It := match k with | .l => Itl K a | .t => Itt K a
def iSeq (k : Kd) (K : PySem.W.Frag) (tl : TE) : TI := fun σ H R => tl σ H fun x H1 => ∃ a, x = .ref a /\ (∃ xs, SqK k K H1 a xs) /\ R (ItK k K a) H1
theorem pi_seq {X : Cx} {tg : Expr} (k : Kd) {l : Expr} {tl : TE} (hl : PE X l tl) : PI X tg l (iSeq k X.K tl) := by
  cases k with
  | l => exact pi_list hl
  | t => exact pi_tup hl
theorem itk_go {k : Kd} {K : PySem.W.Frag} {H : Hp} {a : Addr} {xs : List V} {i : Nat} (h : SqK k K H a xs) (hi : i < xs.length) : (ItK k K a).go i H := by
  cases k with
  | l => exact ⟨xs, xs[i], h, by simp [hi]⟩
  | t => exact ⟨xs, xs[i], h, by simp [hi]⟩
theorem itk_stop {k : Kd} {K : PySem.W.Frag} {H : Hp} {a : Addr} {xs : List V} {i : Nat} (h : SqK k K H a xs) (hi : xs.length <= i) : (ItK k K a).stop i H := by
  cases k with
  | l => exact ⟨xs, h, hi⟩
  | t => exact ⟨xs, h, hi⟩
theorem itk_yld {k : Kd} {K : PySem.W.Frag} {H H' : Hp} {a : Addr} {xs : List V} {i : Nat} {x : V} (h : SqK k K H a xs) (y : (ItK k K a).yld i H x H') : H' = H /\ xs[i]? = some x := by
  cases k with
  | l => exact ⟨y.1, y.2 xs h⟩
  | t => exact ⟨y.1, y.2 xs h⟩
theorem comp_seq {k : Kd} {K : PySem.W.Frag} {a : Addr} {xs : List V} {g : TG} {tt : TT} {te : TE} {fin : List V -> Hp -> Prop} {σ : St} {H : Hp} (S : St -> Prop) (Pv : Nat -> List V -> Hp -> Prop) (hσ : S σ) (h0 : Pv 0 [] H) (hz : xs.length < sizeLine)
    (hl : ∀ i ys H, i <= xs.length -> Pv i ys H -> SqK k K H a xs)
    (hs : ∀ (i : Nat) (x : V) (ys : List V) (σ : St) (H : Hp) (N : List V -> St -> Hp -> Prop), xs[i]? = some x -> S σ -> Pv i ys H -> (∀ ys' σ' H', S σ' -> Pv (i + 1) ys' H' -> ys'.length <= ys.length + 1 -> N ys' σ' H') ->
      g x σ H fun σ2 H2 => tt σ2 H2 fun b H3 => if b = true then te σ2 H3 fun y H4 => N (ys ++ [y]) σ2 H4 else N ys σ2 H3)
    (hd : ∀ ys H, Pv xs.length ys H -> fin ys H) : ∃ W, CompW (ItK k K a) g tt te fin W /\ ∃ m, W 0 m [] σ H := by
  refine ⟨fun i m ys σ H => m = xs.length - i /\ i <= xs.length /\ ys.length <= i /\ S σ /\ Pv i ys H, ?_, xs.length, by simp, Nat.zero_le _, Nat.le_refl _, hσ, h0⟩
  rintro i m ys σ H ⟨rfl, hi, hy, hS, p⟩
  have q := hl i ys H hi p
  by_cases hlt : i < xs.length
  · refine .inr ⟨itk_go q hlt, by lia, fun x H' y => ?_⟩
    obtain ⟨e, hy2⟩ := itk_yld q y
    subst e
    have := hs i x ys σ H' (fun ys' σ' H'' => ∃ m', m' < xs.length - i /\ m' = xs.length - (i + 1) /\ i + 1 <= xs.length /\ ys'.length <= i + 1 /\ S σ' /\ Pv (i + 1) ys' H'') hy2 hS p (fun ys' σ' H'' a b c => ⟨_, by lia, rfl, hlt, by lia, a, b⟩)
    exact this
  · have e : i = xs.length := by lia
    subst e
    exact .inl ⟨itk_stop q (Nat.le_refl _), by lia, hd ys H p⟩
theorem for_enum {k : Kd} {K : PySem.W.Frag} {a : Addr} {xs : List V} {g : TG} {tb : TS} {D : Ends} {σ : St} {H : Hp} (Pv : Nat -> St -> Hp -> Prop) (h0 : Pv 0 σ H) (hl : ∀ i σ H, i <= xs.length -> Pv i σ H -> SqK k K H a xs)
    (hs : ∀ (i : Nat) x p σ H, xs[i]? = some x -> Pv i σ H -> H p = none -> g (.ref p) σ (upd H p (.tup [.int i, x])) fun σ2 H2 => tb { D with nx := Pv (i + 1), ct := Pv (i + 1), bk := D.nx } σ2 H2) (hd : ∀ σ H, Pv xs.length σ H -> D.nx σ H) :
    ∃ W : Nat -> Nat -> St -> Hp -> Prop, (∃ m, W 0 m σ H) /\ ∀ i m σ H, W i m σ H ->
      ((ItE k K a).stop i H /\ D.nx σ H) \/ ((ItE k K a).go i H /\ ∃ N : St -> Hp -> Prop, (∀ σ' H', N σ' H' -> ∃ m', m' < m /\ W (i + 1) m' σ' H') /\ ∀ x H', (ItE k K a).yld i H x H' -> g x σ H' fun σ2 H2 => tb { D with nx := N, ct := N, bk := D.nx } σ2 H2) := by
  refine ⟨fun i m σ H => m = xs.length - i /\ i <= xs.length /\ Pv i σ H, ⟨xs.length, by simp, Nat.zero_le _, h0⟩, ?_⟩
  rintro i m σ H ⟨rfl, hi, p⟩
  have q := hl i σ H hi p
  by_cases hlt : i < xs.length
  · refine .inr ⟨⟨xs, xs[i], q, by simp [hlt]⟩, Pv (i + 1), fun σ' H' p' => ⟨xs.length - (i + 1), by lia, rfl, hlt, p'⟩, fun x H' y => ?_⟩
    obtain ⟨r, y, hn, rfl, hy, rfl⟩ := y
    exact hs i y r σ H (hy xs q) p hn
  · have e : i = xs.length := by lia
    subst e
    exact .inl ⟨⟨xs, q, Nat.le_refl _⟩, hd σ H p⟩
theorem units66 {A : Around} {k : Nat} (hr : Room k A) : A.units + 66 < cLine := by have := hr.un; lia
def compB (kinds : List (Str × NameKind)) (N : List Str) (scope : Scope) (N' : List Str) (fr : List (Option Nat)) : Bool :=
  (scope.kind == .function) && (scope.names.all fun y => y.2 != .cell) && (scope.names.all fun y => y.2 != .local || scope.names.lookup y.1 == some .local) &&
  (scope.names.all fun y => y.2 != .free || (kinds.lookup y.1 == some .cell || kinds.lookup y.1 == some .free)) && frOk N kinds scope.names N' fr
theorem compOk_of {X : Cx} {scope : Scope} {N' : List Str} {fr : List (Option Nat)} (h : compB X.env.scope.names X.N scope N' fr = true) : CompOk X scope N' fr := by
  unfold compB at h
  simp only [Bool.and_eq_true, List.all_eq_true] at h
  obtain ⟨⟨⟨⟨h1, h2⟩, h3⟩, h4⟩, h5⟩ := h
  refine ⟨by simpa using h1, fun y hy => by simpa using h2 y hy, fun y hy e => ?_, fun y hy e => ?_, h5⟩
  · have := h3 y hy
    rw [e] at this
    simpa using this
  · have := h4 y hy
    rw [e] at this
    simpa [Env.kindOf] using this
theorem yesT {σ : St} {H : Hp} {A B : Hp -> Prop} (h : A H) : tYes σ H fun b H3 => if b = true then A H3 else B H3 := by
  show if true = true then A H else B H
  exact iteT h
section
open PySem.SeqAt
open PySem.AutoSeq1 (wpAny_loadPart')
open PySem.MeetsSeq PySem.MeetsSeq2 PySem.MeetsSeq3
end
section
variable {X : Cx}
def rCat0 (K : PySem.W.Frag) : R2 := fun x y H Q => ∃ a b ys, x = .ref a /\ y = .ref b /\ SqT K H a [] /\ SqT K H b ys /\ Q (.ref b) H
theorem op_cat0 : OpR X (binaryOp .Add) (rCat0 X.K) := by
  intro pins s σ H x y v u Q I rx ry h
  obtain ⟨a, b, ys, rfl, rfl, ha, hb, k⟩ := h
  cases (show v = Value.ref a from rx)
  cases (show u = Value.ref b from ry)
  obtain ⟨its, r1, t1, _⟩ := I.tuple ha
  obtain ⟨its2, r2, t2, _⟩ := I.tuple hb
  rw [Vals.zero r1] at t1
  obtain ⟨⟨cls, dd, data, sl⟩, ho, hc, n, hd⟩ := id t1
  obtain ⟨⟨cls2, dd2, data2, sl2⟩, ho2, hc2, n2, hd2⟩ := id t2
  simp only at hc hd hc2 hd2
  subst hc hd hc2 hd2
  exact concat_meets ⟨_, ho, rfl⟩ ⟨_, ho2, rfl⟩ noFill_tuple_add seq_tuple_add PySem.F.slot_tuple_add PySem.F.entry_tuple_add (PySem.F.args_tuple_add_2 _ _) (tuple_addW0 a b _ its2.toArray n n2 dd dd2 sl sl2 (by simp)) ⟨ho, ho2, ⟨.ref b, H, I, rfl, k⟩⟩
end
theorem comp_range {lo : Int} {n : Nat} {g : TG} {tt : TT} {te : TE} {fin : List V -> Hp -> Prop} {σ : St} {H : Hp} (S : St -> Prop) (Pv : Nat -> List V -> Hp -> Prop) (hσ : S σ) (h0 : Pv 0 [] H) (hz : n < sizeLine)
    (hs : ∀ (i : Nat) (ys : List V) (σ : St) (H : Hp) (N : List V -> St -> Hp -> Prop), i < n -> S σ -> Pv i ys H -> (∀ ys' σ' H', S σ' -> Pv (i + 1) ys' H' -> ys'.length <= ys.length + 1 -> N ys' σ' H') ->
      g (.int (lo + i)) σ H fun σ2 H2 => tt σ2 H2 fun b H3 => if b = true then te σ2 H3 fun y H4 => N (ys ++ [y]) σ2 H4 else N ys σ2 H3)
    (hd : ∀ ys H, Pv n ys H -> fin ys H) : ∃ W, CompW (Itr lo n) g tt te fin W /\ ∃ m, W 0 m [] σ H := by
  refine ⟨fun i m ys σ H => m = n - i /\ i <= n /\ ys.length <= i /\ S σ /\ Pv i ys H, ?_, n, by simp, Nat.zero_le _, Nat.le_refl _, hσ, h0⟩
  rintro i m ys σ H ⟨rfl, hi, hy, hS, p⟩
  by_cases hlt : i < n
  · refine .inr ⟨hlt, by omega, fun x H' y => ?_⟩
    obtain ⟨e, y⟩ := y
    subst e y
    exact hs i ys σ _ (fun ys' σ' H'' => ∃ m', m' < n - i /\ m' = n - (i + 1) /\ i + 1 <= n /\ ys'.length <= i + 1 /\ S σ' /\ Pv (i + 1) ys' H'') hlt hS p (fun ys' σ' H'' a b c => ⟨_, by omega, rfl, hlt, by omega, a, b⟩)
  · have e : i = n := by omega
    subst e
    exact .inl ⟨Nat.le_refl _, by omega, hd ys H p⟩
section
variable {X : Cx}
end
def CXr (P : Program) (w : World) : CXT := fun outer H s E e s' => ∃ (ea C : Addr) (a0 : Value) (B : Heap) (H' : Hp), e = .ref ea /\ s'.os = s.os /\ AllBare s'.gens /\ Un (frs outer) [] H H' s.heap s'.heap /\ HOk P w H' s'.heap /\
  Heap.FlyingW B outer ea (.ref C) a0 s'.heap /\ (∀ b o, s'.heap.get? b = some o -> ((∃ q, s.heap.get? b = some q) \/ ∃ q, H' b = some q) -> b ∉ frs outer -> B.get? b = some o) /\ E (.ref C) none H'
section
variable {P : Program} {w : World} {K : PySem.W.Frag} {mg : Str -> Option Value} {base : Heap} {N : List Str} {qual : Str} {scope : Scope} {f : Addr} {cd : Value} {A : Around} {outer : List Env} {s0 : Shared} {H0 : Hp} {E : XK}
end
section
variable {P : Program} {w : World} {K : PySem.W.Frag} {mg : Str -> Option Value} {base : Heap} {N : List Str} {qual : Str} {scope : Scope} {f : Addr} {cd : Value} {A : Around} {outer : List Env} {s0 : Shared} {H0 : Hp} {E : XK}
end
end L2
namespace L2
open PySem PySem.Spec PyProof.Rows PySem.W
section
variable {K : Frag} {prog : Program} {w : World} {A : Around} {E : Value -> Shared -> Prop} {h : Heap} {g : Array GenState} {d : Drawn} {t : Nat} {os : OsState} {a C : Addr} {o : Obj}
end
section
variable {X : Cx}
end
end L2
namespace L2
open PySem PySem.Spec PyProof.Rows PySem.W
section
variable {X : Cx} {pins : List (Addr × Obj)} {σ : St} {H H' : Hp} {s s' : Shared}
end
section
variable {X : Cx} {pins : List (Addr × Obj)} {σ : St} {H H' : Hp} {s s' : Shared} {v : Value}
end
end L2
namespace L2
open PySem PySem.Spec PyProof.Rows
open PySem.AutoSeq1 (wpAny_loadPart')
section
variable {prog : Program} {w : World} {A : Around} {E : Value -> Shared -> Prop} {s : Shared}
theorem code_collect_range {R : Result -> Shared -> Prop} {r : Addr} {a b c : Int} {t u v : Tok} {n : Nat} (hh : A.handled = none) (hr : IsRange s.heap r a b c t u v) (hsm : Builtin.Range.small a b c = true) (hn : Builtin.Range.rangeSize a b c = n) (hl : n <= 2 ^ 24)
    (hR : ∀ h' tk acc c', (∀ b o, s.heap.get? b = some o -> h'.get? b = some o) -> h'.get? s.heap.objs.size = some { cls := .type "list", dict := none, data := .seq acc c', slots := #[] } -> ItemsOf (fun i v => ∃ t, v = .int (a + i * c) t) acc n ->
      R (.ok (.ret (.ref s.heap.objs.size))) { s with heap := h', toks := tk }) : codeAny (model prog w) A (.builtin "proto.collect" ⟨[.ref r], []⟩) R s := by
  refine codeAny_builtin PySem.F.entry_proto_collect ?_
  rw [Around.under_plainId PySem.F.plain_proto_collect _]
  show wpAny _ A.in1 (newList [] >>= fun l => again (.builtin "list.__iadd__" ⟨[l, .ref r], []⟩)) _ _ s
  refine wpAny_bind (wpAny_newObj_type ?_)
  refine wpAny_pure ⟨plainId_quiet PySem.F.plain_list_iadd _, codeAny_builtin PySem.F.entry_list_iadd ?_⟩
  rw [Around.under_plainId PySem.F.plain_list_iadd _]
  show wpAny _ A.in1 (Builtin.List.listExtendWith (.ref s.heap.objs.size) (.ref r) (.ref s.heap.objs.size)) _ _ _
  exact wpAny_extend_range (R := R) (s := { s with heap := s.heap.push { cls := .type "list", data := .seq ([] : List Value).toArray } }) hh (Heap.get?_push_of_some _ hr) hsm hn hl s.heap.objs.size (.ref s.heap.objs.size) 0 (Heap.get?_push_size _ rfl) fun h' tk acc c' hk hS hacc =>
    hR h' tk acc c' (fun b o e => hk b o (Nat.ne_of_lt (Heap.lt_size e)) (Heap.get?_push_of_some _ e)) hS hacc
theorem collect_range {Q : List Value -> Shared -> Prop} {r : Addr} {a b c : Int} {t u v : Tok} {n : Nat} (hh : A.handled = none) (hr : IsRange s.heap r a b c t u v) (hsm : Builtin.Range.small a b c = true) (hn : Builtin.Range.rangeSize a b c = n) (hl : n <= 2 ^ 24)
    (hQ : ∀ h' tk acc, (∀ b o, s.heap.get? b = some o -> h'.get? b = some o) -> s.heap.objs.size < h'.objs.size -> ItemsOf (fun i v => ∃ t, v = .int (a + i * c) t) acc n -> Q acc.toList { s with heap := h', toks := tk }) : wpAny (model prog w) A (collect (.ref r)) Q E s := by
  unfold collect
  refine wpAny_bind (wpAny_runValue (code_collect_range hh hr hsm hn hl fun h' tk acc c' hk hS hacc => ?_))
  show wpAny _ A (load s.heap.objs.size >>= _) _ _ _
  refine wpAny_bind (wpAny_load hS ?_)
  exact wpAny_pure (hQ h' tk acc hk (Heap.lt_size hS) hacc)
end
theorem new_tuple_range (r : Addr) (a b c : Int) (t u v : Tok) (n : Nat) (hsm : Builtin.Range.small a b c = true) (hn : Builtin.Range.rangeSize a b c = n) (hl : n <= 2 ^ 24) :
    Meets (Builtin.«tuple.__new__» ⟨[.type "tuple", .ref r], []⟩)
      (fun A R s => (A.handled = none /\ IsRange s.heap r a b c t u v) /\ ∀ (h' : Heap) (tk : Nat) (acc : Array Value), (∀ b o, s.heap.get? b = some o -> h'.get? b = some o) -> s.heap.objs.size < h'.objs.size -> ItemsOf (fun i v => ∃ t, v = .int (a + i * c) t) acc n ->
        R (.ok (.ret (.ref h'.objs.size))) { s with heap := h'.push { cls := .type "tuple", data := .seq acc }, toks := tk }) :=
  .of_wp fun prog w A R s h => by
    obtain ⟨⟨hh, hr⟩, h⟩ := h
    have hsub := sub_tuple_self
    have hinit := init_tuple_lookup
    have hmh := madeHere_tuple
    have hT : s.TypeIs (.ref r) "range" := ⟨_, hr, rfl⟩
    have hh1 : A.in1.handled = none := hh
    wp_walk using wpAny_typeOf hT, collect_range hh1 hr hsm hn hl
    intro h' tk acc hk hz hacc
    show wpAny _ _ (Builtin.Tuple.tupleExact acc.toList.toArray >>= fun v => ret v) _ _ _
    unfold Builtin.Tuple.tupleExact
    refine wpAny_bind (wpAny_newObj_type ?_ (show acc.toList.toArray.size <= sizeLine by simp only [Array.toArray_toList]; rw [hacc.1, sizeLine_eq]; omega))
    refine wpAny_pure ⟨_, rfl, ?_⟩
    have e : acc.toList.toArray = acc := by simp
    rw [e]
    exact h h' tk acc hk hz hacc
def upN (n : Nat) : List V := (List.range n).map fun (i : Nat) => V.int i
theorem items_up {acc : Array Value} {n : Nat} (h : ItemsOf (fun i v => ∃ t, v = .int (0 + (i : Int) * 1) t) acc n) : Vals (upN n) acc.toList := by
  obtain ⟨hz, hi⟩ := h
  have key : ∀ (l : List Value) (k : Nat), (∀ (j : Nat) (v : Value), l[j]? = some v -> ∃ t, v = Value.int ((k + j : Nat) : Int) t) -> Vals ((List.range' k l.length).map fun (i : Nat) => V.int i) l := by
    intro l
    induction l with
    | nil => intro k _; exact .nil
    | cons a r ih =>
      intro k hk
      obtain ⟨t, e⟩ := hk 0 a rfl
      refine .cons ⟨t, by simpa using e⟩ (ih (k + 1) fun j v e => ?_)
      obtain ⟨t', e'⟩ := hk (j + 1) v (by simpa using e)
      exact ⟨t', by rw [e']; congr 2; omega⟩
  have := key acc.toList 0 fun j v e => by
    obtain ⟨t, e'⟩ := hi j v (by simpa using e)
    exact ⟨t, by rw [e']; congr 1; simp⟩
  have el : acc.toList.length = n := by simpa using hz
  rw [el] at this
  unfold upN
  rw [List.range_eq_range']
  exact this
section
variable {X : Cx}
theorem call_range1 : CallR X (.type "range") (fun xs H Q => ∃ j : Int, xs = [.int j] /\ ∀ p, H p = none -> Q (.ref p) (upd H p (.rng 0 j))) := by
  intro pins s σ H xs us Q I r h
  obtain ⟨j, rfl, q⟩ := h
  obtain ⟨u, rfl, ru⟩ := Vals.one r
  obtain ⟨t, rfl⟩ := ru
  refine call_range_1 ⟨.ref s.heap.objs.size, upd H s.heap.objs.size (.rng 0 j), I.laid (fun b o e => Heap.get?_push_of_some _ e) (Nat.le_refl _) ?_, rfl, q _ (I.hok.fresh (Nat.le_refl _))⟩
  exact ⟨_, _, _, Heap.get?_push_size _ rfl⟩
theorem size1 (n : Nat) : Builtin.Range.rangeSize 0 (n : Int) 1 = (n : Int) := by rw [rangeSize_one]; split <;> omega
theorem call_tuple_rng (hc : X.calm = true) : CallR X (.type "tuple") (fun xs H Q => ∃ (p : Addr) (n : Nat), xs = [.ref p] /\ H p = some (.rng 0 n) /\ n <= 1000 /\ ∀ l, H l = none -> Q (.ref l) (upd H l (.tup (upN n)))) := by
  intro pins s σ H xs us Q I r h
  obtain ⟨p, n, rfl, hp, hn, q⟩ := h
  obtain ⟨u, rfl, ru⟩ := Vals.one r
  cases (show u = Value.ref p from ru)
  obtain ⟨t1, t2, t3, e⟩ := I.hok p _ hp
  refine callType_new F.called_tuple (by decide) (F.typeCall_tuple_1 _) (F.newCall_tuple_1 _) (fun obj => F.args_object_init_2 obj _) F.entry_tuple_new
    (new_tuple_range p 0 n 1 t1 t2 t3 n (small_one (by decide) (by decide) (by omega) (by omega)) (size1 n) (by omega)) ⟨⟨I.ok.hd hc, e⟩, fun h' tk acc hk hz hacc => ⟨⟨_, Heap.get?_push_size _ rfl, rfl⟩, ?_⟩⟩
  have ge : s.heap.objs.size <= h'.objs.size := Nat.le_of_lt hz
  refine ⟨.ref h'.objs.size, upd H h'.objs.size (.tup (upN n)), I.laid (fun b o e => Heap.get?_push_of_some _ (hk b o e)) ge ?_, rfl, q _ (I.hok.fresh ge)⟩
  refine ⟨by unfold upN; rw [List.length_map, List.length_range]; exact Nat.le_trans hn (by decide), acc.toList, items_up hacc, _, Heap.get?_push_size _ rfl, rfl, 0, by simp⟩
theorem intsAre_V {ns : List Int} : ∀ {us : List Value}, Vals (ns.map V.int) us -> IntsAre us ns := by
  induction ns with
  | nil => intro us r; rw [Vals.zero r]; exact .nil
  | cons y ys ih =>
    intro us r
    cases r with
    | cons h t =>
      obtain ⟨tk, rfl⟩ := h
      exact .cons y tk (ih t)
end
section
variable {X : Cx}
end
end L2
namespace L2
open PySem PySem.Spec PyProof.Rows PySem.W
def XP (X : Cx) (pins : List (Addr × Obj)) (DX : St -> XK) (e : Value) (s' : Shared) : Prop := ∃ σ H s, Inv X pins σ H s /\ CXr X.prog X.w X.stack H s (DX σ) e s'
section
variable {X : Cx}
end
end L2
namespace L2
open PySem PySem.Spec PyProof.Rows
section
variable {X : Cx}
def rCatA (K : PySem.W.Frag) : R2 := fun x y H Q => ∃ a b xs ys, x = .ref a /\ y = .ref b /\ H a = some (.tup xs) /\ H b = some (.tup ys) /\ xs.length + ys.length <= sizeLine /\ ∀ p H', Same H H' -> H' p = some (.tup (xs ++ ys)) -> Q (.ref p) H'
theorem op_catA : OpR X (binaryOp .Add) (rCatA X.K) := by
  intro pins s σ H x y v u Q I rx ry h
  obtain ⟨a, b, xs, ys, rfl, rfl, ha, hb, hz, q⟩ := h
  by_cases hx : xs = []
  · subst hx
    exact op_cat0 pins s σ H _ _ v u Q I rx ry ⟨a, b, ys, rfl, rfl, SqT.of ha, SqT.of hb, q b H (Same.refl H) hb⟩
  · refine op_catT pins s σ H _ _ v u Q I rx ry ⟨a, b, xs, ys, rfl, rfl, SqT.of ha, SqT.of hb, hx, hz, fun hy => ?_, fun hy p hp => q p _ (Same.new hp) upd_same⟩
    subst hy
    exact q a H (Same.refl H) (by rw [List.append_nil]; exact ha)
end
section
variable {κ : Type} [DecidableEq κ]
end
section
variable {P : Program} {w : World} {H : Hp} {h : Heap} {a : Addr}
end
section
variable {X : Cx} {pins : List (Addr × Obj)} {σ : St} {H : Hp} {s : Shared} {a : Addr} {y v : V} {u r : Value} {o : Option V} {A : Around} {E : Value -> Shared -> Prop}
end
section
variable {X : Cx} {pins : List (Addr × Obj)} {σ : St} {H : Hp} {s : Shared} {a : Addr} {kvs : List (Key × V)} {k : Key} {u : Value} {A : Around} {E : Value -> Shared -> Prop}
end
section
variable {X : Cx} {o i e value : Expr} {pos pos' tpos : Pos} {td ty tv : TE}
end
section
variable {X : Cx} {pos : Pos}
end
section
variable {X : Cx} {pins : List (Addr × Obj)} {σ : St} {H : Hp} {s : Shared} {a : Addr} {y d : V} {u r : Value} {o : Option V} {A : Around} {E : Value -> Shared -> Prop}
end
section
variable {X : Cx} {o e f : Expr} {apos cpos : Pos} {td ty tx : TE}
end
section
variable {X : Cx} {pins : List (Addr × Obj)} {σ : St} {H : Hp} {s : Shared} {a : Addr} {kvs : List (Key × V)} {A : Around} {E : Value -> Shared -> Prop}
end
section
variable {X : Cx} {pins : List (Addr × Obj)} {σ : St} {H : Hp} {s : Shared} {a : Addr} {y : V} {u : Value} {A : Around} {E : Value -> Shared -> Prop}
end
section
variable {prog : Program} {w : World} {A : Around} {E : Value -> Shared -> Prop} {s : Shared} {it d v : Addr} {i ep : Nat} {es : Array DictEntry} {o : Obj}
end
abbrev TTab := List (List Key × V)
section
variable {X : Cx} {pins : List (Addr × Obj)} {σ : St} {H : Hp} {s : Shared} {d : Addr} {kvs : TTab}
end
section
variable {X : Cx}
end
end L2
namespace L2
open PySem PySem.W PyProof.Rows
structure Ord (lt : Nat -> Nat -> Bool) : Prop where
  as : ∀ i j, lt i j = true -> lt j i = false
  tr : ∀ i j k, lt j i = false -> lt k j = false -> lt k i = false
theorem Ord.rf {lt : Nat -> Nat -> Bool} (o : Ord lt) (i : Nat) : lt i i = false := by
  cases h : lt i i with
  | false => rfl
  | true => have := o.as i i h; rw [h] at this; exact this
structure PB (N : Nat) (p : Array Nat) : Prop where
  perm : p.Perm (List.range N).toArray
theorem PB.size {N : Nat} {p : Array Nat} (h : PB N p) : p.size = N := by have := h.perm.size_eq; simpa using this
theorem PB.lt {N : Nat} {p : Array Nat} (h : PB N p) {i : Nat} (hi : i < N) : p.getD i 0 < N := by
  have hs : i < p.size := by rw [h.size]; exact hi
  have e : p.getD i 0 = p[i] := by simp [Array.getD, hs]
  rw [e]
  have hm : p[i] ∈ p := Array.getElem_mem hs
  have := h.perm.mem_iff.mp hm
  simpa using this
theorem PB.rev {N : Nat} {p : Array Nat} (h : PB N p) (i j : Nat) : PB N (kas_rev p i j) := ⟨(mirror_perm p i j _).trans h.perm⟩
theorem PB.bub {N : Nat} {p : Array Nat} (h : PB N p) (i j : Nat) : PB N (bubble p i j) := ⟨(bubble_perm p i j).trans h.perm⟩
theorem getD_of {xs ys : Array Nat} {i j : Nat} (h : xs[i]? = ys[j]?) : xs.getD i 0 = ys.getD j 0 := by
  rw [Array.getD_eq_getD_getElem?, Array.getD_eq_getD_getElem?, h]
theorem rev_at {N : Nat} {p : Array Nat} (h : PB N p) {i j : Nat} (hj : j <= N) (k : Nat) : (kas_rev p i j).getD k 0 = if i <= k /\ k < j then p.getD (i + j - 1 - k) 0 else p.getD k 0 := by
  have e := getElem?_mirror_all (xs := p) (i := i) (j := j) (by rw [h.size]; exact hj) k
  unfold kas_rev
  by_cases c : i <= k /\ k < j
  · rw [if_pos c] at e ⊢; exact getD_of e
  · rw [if_neg c] at e ⊢; exact getD_of e
theorem bub_at {N : Nat} {p : Array Nat} (h : PB N p) {k l : Nat} (hk : k < N) (hl : l <= k) (i : Nat) :
    (bubble p k (k - l)).getD i 0 = if i = l then p.getD k 0 else if l < i /\ i <= k then p.getD (i - 1) 0 else p.getD i 0 := by
  have e := getElem?_bubble (xs := p) (src := k) (by rw [h.size]; exact hk) (k - l) (by lia) i
  rw [show k - (k - l) = l by lia] at e
  by_cases c : i = l
  · rw [if_pos c] at e ⊢; exact getD_of e
  · rw [if_neg c] at e ⊢
    by_cases c2 : l < i /\ i <= k
    · rw [if_pos c2] at e ⊢; exact getD_of e
    · rw [if_neg c2] at e ⊢; exact getD_of e
section
variable {lt : Nat -> Nat -> Bool} {N : Nat}
def Up (lt : Nat -> Nat -> Bool) (p : Array Nat) (m : Nat) : Prop := ∀ i j, i <= j -> j < m -> lt (p.getD j 0) (p.getD i 0) = false
def Flat (lt : Nat -> Nat -> Bool) (p : Array Nat) (a b : Nat) : Prop := ∀ i j, a <= i -> i < b -> a <= j -> j < b -> lt (p.getD i 0) (p.getD j 0) = false
end
end L2
namespace L2
open PySem PySem.W PyProof.Rows
section
variable {prog : Program} {w : World} {A : Around} {E : Value -> Shared -> Prop} {s : Shared}
def Asks (prog : Program) (w : World) (s : Shared) (lt : Nat -> Nat -> Bool) (vs : List Value) : Prop :=
  ∀ (A : Around) (h' : Heap), (∀ b u, s.heap.get? b = some u -> h'.get? b = some u) -> 2 <= vs.length -> ∃ κ : SortKind, (∀ (E : Value -> Shared -> Prop) (Q : SortKind -> Shared -> Prop), Q κ { s with heap := h' } -> wpAny (model prog w) A (keyKind' vs.toArray) Q E { s with heap := h' }) /\
    ∀ (i j : Nat) (C : Bool -> Shared -> Prop), i < vs.length -> j < vs.length -> C (lt i j) { s with heap := h' } -> wpAny (model prog w) A (keyLt' κ (vs.getD i Value.none) (vs.getD j Value.none)) C (fun _ _ => False) { s with heap := h' }
def outOf (vs : List Value) (p : Array Nat) : List Value := p.toList.map fun i => vs.getD i Value.none
theorem sort_one {vs : List Value} (h : ¬ vs.length >= 2) : outOf vs (List.range vs.length).toArray = vs := by
  unfold outOf
  match vs with
  | [] => rfl
  | [v] => rfl
  | _ :: _ :: _ => simp at h
theorem zip_snd (vs : List Value) : (vs.toArray.zip vs.toArray).map (·.2) = vs.toArray := by
  apply Array.toList_inj.mp
  rw [Array.toList_map, Array.toList_zip]
  exact List.map_snd_zip (Nat.le_refl _)
end
end L2
namespace L2
open PySem PySem.W PyProof.Rows
theorem lex_as : ∀ (a b : List Int), HT.lexLt a b = true -> HT.lexLt b a = false
  | [], [], h => by cases h
  | [], _ :: _, _ => rfl
  | _ :: _, [], h => by cases h
  | x :: xs, y :: ys, h => by
    rw [HT.lexLt_cons] at h ⊢
    by_cases e : x = y
    · rw [if_pos e] at h; rw [if_pos e.symm]; exact lex_as xs ys h
    · rw [if_neg e] at h; rw [if_neg (Ne.symm e)]
      have := of_decide_eq_true h
      exact decide_eq_false (by lia)
theorem lex_tr : ∀ (a b c : List Int), HT.lexLt b a = false -> HT.lexLt c b = false -> HT.lexLt c a = false
  | [], [], c, _, h => h
  | [], _ :: _, [], _, h => by cases h
  | [], _ :: _, _ :: _, _, _ => rfl
  | _ :: _, [], _, h, _ => by cases h
  | x :: xs, y :: ys, [], _, h => by cases h
  | x :: xs, y :: ys, z :: zs, h1, h2 => by
    rw [HT.lexLt_cons] at h1 h2 ⊢
    by_cases e1 : y = x
    · rw [if_pos e1] at h1
      by_cases e2 : z = y
      · rw [if_pos e2] at h2
        rw [if_pos (e2.trans e1)]
        exact lex_tr xs ys zs h1 h2
      · rw [if_neg e2] at h2
        rw [if_neg (fun q => e2 (q.trans e1.symm))]
        have := of_decide_eq_false h2
        exact decide_eq_false (by lia)
    · rw [if_neg e1] at h1
      have g1 := of_decide_eq_false h1
      by_cases e2 : z = y
      · rw [if_neg (fun q => e1 (e2.symm.trans q))]
        exact decide_eq_false (by lia)
      · rw [if_neg e2] at h2
        have g2 := of_decide_eq_false h2
        rw [if_neg (by lia)]
        exact decide_eq_false (by lia)
theorem lex_ord (kss : List (List Int)) : Ord fun i j => HT.lexLt (kss.getD i []) (kss.getD j []) := ⟨fun _ _ h => lex_as _ _ h, fun _ _ _ h1 h2 => lex_tr _ _ _ h1 h2⟩
def lexZ (fin : Bool) : List Int -> List Int -> Bool
  | x :: xs, y :: ys => if x = y then lexZ fin xs ys else decide (x < y)
  | _, _ => fin
theorem lexZ_eq : ∀ (a b : List Int), lexZ (decide (a.length < b.length)) a b = HT.lexLt a b
  | [], [] => rfl
  | [], _ :: _ => by show decide _ = true; simp
  | _ :: _, [] => by show decide _ = false; simp
  | x :: xs, y :: ys => by
    rw [HT.lexLt_cons]
    show (if x = y then lexZ _ xs ys else decide (x < y)) = _
    have : decide ((x :: xs).length < (y :: ys).length) = decide (xs.length < ys.length) := by simp
    rw [this, lexZ_eq xs ys]
section
variable {prog : Program} {w : World} {A : Around} {E : Value -> Shared -> Prop} {s : Shared}
theorem ints_lex {fin : Bool} {Q : Bool -> Shared -> Prop} : ∀ {us : List Value} {ks : List Int} {ws : List Value} {ms : List Int} (i : Nat), IntsAre us ks -> IntsAre ws ms -> Q (lexZ fin ks ms) s -> KatLex prog w A true fin Q (us.zip ws) i s
  | _, _, _, _, _, .nil, _, q => kat_nil q
  | _, _, _, _, _, .cons _ _ _, .nil, q => kat_nil q
  | _, _, _, _, i, .cons (vs := us) (ns := ks) x t h1, .cons (vs := ws) (ns := ms) y u h2, q => by
    refine kat_cons (wpAny_eqBool_int (kat_go (fun e => kat_yes (ints_lex (i + 1) h1 h2 ?_)) fun e => kat_no ?_))
    · have : x = y := by simpa using e
      have z : lexZ fin (x :: ks) (y :: ms) = lexZ fin ks ms := by show (if x = y then _ else _) = _; rw [if_pos this]
      rw [z] at q; exact q
    · have : ¬ x = y := by simpa using e
      have z : lexZ fin (x :: ks) (y :: ms) = decide (x < y) := by show (if x = y then _ else _) = _; rw [if_neg this]
      rw [z] at q
      cases h0 : (true && i == 0) with
      | true => exact oneLt_int q
      | false => exact kat_one _ _ (lt_int q)
def TupI (h : Heap) (v : Value) (ks : List Int) : Prop := ∃ a o xs n, v = .ref a /\ h.get? a = some o /\ o.cls = .type "tuple" /\ o.data = .seq xs n /\ IntsAre xs.toList ks
theorem TupI.kept {h h' : Heap} {v : Value} {ks : List Int} (x : TupI h v ks) (k : ∀ b u, h.get? b = some u -> h'.get? b = some u) : TupI h' v ks := let ⟨a, o, xs, n, e, g, r⟩ := x; ⟨a, o, xs, n, e, k _ _ g, r⟩
theorem ints_first {us : List Value} {x : Int} {ks : List Int} (h : IntsAre us (x :: ks)) : ∃ t, us[0]? = some (.int x t) := by
  cases h with
  | cons _ t _ => exact ⟨t, rfl⟩
theorem tups_firsts {h : Heap} : ∀ {vs : List Value} {kss : List (List Int)}, Paired (TupI h) vs kss -> (∀ ks ∈ kss, ks ≠ []) -> ∃ fs, KatTups h vs fs /\ fs.length = vs.length /\ ∀ f ∈ fs, ∃ x t, f = .int x t
  | _, _, .nil, _ => ⟨[], .nil, rfl, fun f hf => nomatch hf⟩
  | _, _, .cons (b := ks) r t, hne => by
    obtain ⟨fs, k, l, a⟩ := tups_firsts t fun ks hk => hne ks (List.mem_cons_of_mem _ hk)
    obtain ⟨ad, o, xs, n, rfl, g, hc, hd, hi⟩ := r
    cases ks with
    | nil => exact absurd rfl (hne _ (List.mem_cons_self ..))
    | cons x ks =>
      obtain ⟨tk, e⟩ := ints_first hi
      refine ⟨.int x tk :: fs, .cons g hc hd (by rw [Array.getElem?_toList] at e; exact e) k, by simp [l], fun f hf => ?_⟩
      rcases List.mem_cons.mp hf with rfl | hf
      · exact ⟨x, tk, rfl⟩
      · exact a f hf
theorem asks_tups {vs : List Value} {kss : List (List Int)} (h : Paired (TupI s.heap) vs kss) (hne : ∀ ks ∈ kss, ks ≠ []) : Asks prog w s (fun i j => HT.lexLt (kss.getD i []) (kss.getD j [])) vs := by
  intro A h' keep two
  have h2 : Paired (TupI h') vs kss := Paired.mapP h fun _ _ x => x.kept keep
  refine ⟨tuples' true, fun E Q q => ?_, fun i j C hi hj q => ?_⟩
  · obtain ⟨fs, k, l, a⟩ := tups_firsts h2 hne
    have e : (Value.type "int" != Value.type "tuple") = true := by decide
    refine kat_kind (T := .type "int") k (by lia) (fun f hf => ?_) (by decide) (by rw [e]; exact q)
    obtain ⟨x, t, rfl⟩ := a f hf
    exact .now
  · have gi : ∀ i, i < vs.length -> ∃ v ks, vs.getD i Value.none = v /\ kss.getD i [] = ks /\ TupI h' v ks := fun i hi => by
      obtain ⟨ks, e, r⟩ := Paired.at h2 (i := i) (a := vs[i]) (by simp [hi])
      exact ⟨vs[i], ks, by simp [hi], by rw [List.getD_eq_getElem?_getD, e]; rfl, r⟩
    obtain ⟨v, ks, ev, ek, a, o, xs, n, rfl, g, _, hd, hI⟩ := gi i hi
    obtain ⟨u, ms, eu, em, b, o2, ys, n2, rfl, g2, _, hd2, hI2⟩ := gi j hj
    rw [ev, eu]
    refine kat_lt (s := { s with heap := h' }) g hd g2 hd2 (ints_lex 0 hI hI2 ?_)
    have l1 : xs.size = ks.length := by have := hI.length; simpa using this
    have l2 : ys.size = ms.length := by have := hI2.length; simpa using this
    rw [l1, l2, lexZ_eq]
    have q' : C (HT.lexLt (kss.getD i []) (kss.getD j [])) { s with heap := h' } := q
    rw [ek, em] at q'
    exact q'
end
def IntsAt (H : Hp) (v : V) (ks : List Int) : Prop := ∃ a, v = .ref a /\ H a = some (.tup (ks.map V.int))
theorem IntsAt.same {H H' : Hp} {v : V} {ks : List Int} (h : IntsAt H v ks) (e : Same H H') : IntsAt H' v ks := let ⟨a, h1, h2⟩ := h; ⟨a, h1, e _ _ h2⟩
def LexLe (a b : List Int) : Prop := HT.lexLt b a = false
section
variable {X : Cx}
theorem paired_map {α β γ : Type} {F : α -> β -> Prop} {f : γ -> α} {g : γ -> β} : ∀ {l : List γ}, (∀ c ∈ l, F (f c) (g c)) -> Paired F (l.map f) (l.map g)
  | [], _ => .nil
  | c :: l, h => .cons (h c (List.mem_cons_self ..)) (paired_map fun d hd => h d (List.mem_cons_of_mem _ hd))
theorem range_getD {α : Type} (l : List α) (d : α) : (List.range l.length).map (fun i => l.getD i d) = l := by
  apply List.ext_getElem
  · simp
  · intro i h1 h2
    simp at h1
    simp [h1]
theorem PB.list {N : Nat} {p : Array Nat} (h : PB N p) : p.toList.Perm (List.range N) := by
  have := Array.perm_iff_toList_perm.mp h.perm
  simpa using this
end
end L2
namespace L2
open PySem PySem.Spec PyProof.Rows
theorem for_seq {k : Kd} {K : PySem.W.Frag} {a : Addr} {xs : List V} {g : TG} {tb : TS} {D : Ends} {σ : St} {H : Hp} (Pv : Nat -> St -> Hp -> Prop) (h0 : Pv 0 σ H) (hl : ∀ i σ H, i <= xs.length -> Pv i σ H -> SqK k K H a xs)
    (hs : ∀ i x σ H, xs[i]? = some x -> Pv i σ H -> g x σ H fun σ2 H2 => tb { D with nx := Pv (i + 1), ct := Pv (i + 1), bk := D.nx } σ2 H2) (hd : ∀ σ H, Pv xs.length σ H -> D.nx σ H) :
    ∃ W : Nat -> Nat -> St -> Hp -> Prop, (∃ m, W 0 m σ H) /\ ∀ i m σ H, W i m σ H ->
      ((ItK k K a).stop i H /\ D.nx σ H) \/ ((ItK k K a).go i H /\ ∃ N : St -> Hp -> Prop, (∀ σ' H', N σ' H' -> ∃ m', m' < m /\ W (i + 1) m' σ' H') /\ ∀ x H', (ItK k K a).yld i H x H' -> g x σ H' fun σ2 H2 => tb { D with nx := N, ct := N, bk := D.nx } σ2 H2) := by
  cases k with
  | l => exact for_list Pv h0 hl hs hd
  | t => exact for_tup Pv h0 hl hs hd
section
variable {X : Cx}
end
section
open PySem.SeqAt
open PySem.AutoSeq1 (wpAny_loadPart')
open PySem.MeetsSeq PySem.MeetsSeq2 PySem.MeetsSeq3
end
section
variable {X : Cx}
end
section
variable {prog : Program} {w : World} {A : Around} {E : Value -> Shared -> Prop} {s : Shared} {it l : Addr} {its : Array Value}
end
section
variable {X : Cx}
end
section
variable {prog : Program} {w : World} {A : Around} {E : Value -> Shared -> Prop} {s : Shared} {a : Addr} {led : Bool} {ns : List Int}
end
section
variable {prog : Program} {w : World} {A : Around} {R : Result -> Shared -> Prop} {I : Addr} {fp wr : List Addr} {G : Array GenState -> Array GenState -> Prop} {n : Nat} {P : Nat -> Value -> Prop} {St : Nat -> Shared -> Prop}
end
section
variable {prog : Program} {w : World} {A : Around} {E : Value -> Shared -> Prop} {s : Shared}
theorem code_new_led (a : Value) {Q₁ : Value -> Shared -> Prop}
    (h : Q₁ (.ref s.heap.objs.size) { s with heap := s.heap.push { cls := .type "set", dict := none, data := .set #[] 0 (.fresh 0 0 (!w.params.followText "set-order")) } }) :
    codeAny (model prog w) A (.call (.builtin "set.__new__") ⟨[.type "set", a], []⟩) (wants Q₁ E) s := by
  refine codeAny_of_tree (show wpAny _ A.in1 (do checkBuiltinCall "set.__new__" ⟨[.type "set", a], []⟩; again (.builtin "set.__new__" ⟨[.type "set", a], []⟩)) _ _ s from ?_)
  refine wpAny_bind (wpAny_of_eq (F.newCall_set_1 a) (wpAny_pure ⟨plainId_quiet F.plain_set_new _, codeAny_builtin F.entry_set_new ?_⟩))
  rw [Around.under_plainId F.plain_set_new _]
  unfold Builtin.«set.__new__» Builtin.Frozenset.newClass
  have f1 := sub_set_self
  obtain ⟨hp, g, d, tk, os⟩ := s
  dsimp only
  wp_walk
  refine wpAny_askSetting (wpAny_pure ?_)
  dsimp only
  simp only [newObj]
  exact wpAny_bind (wpAny_alloc (wpAny_pure (wpAny_pure h)))
set_option maxHeartbeats 8000000 in
end
theorem entry_set_iter : entryFor table "set.__iter__" = some Builtin.«frozenset.__iter__» :=
  entryFor_alias (id' := "frozenset.__iter__") (by kernel_rfl) (by first | rfl | decide +kernel) (by decide +kernel) (by kernel_rfl)
theorem slot_si_next : Slot "set_iterator" "__next__" "set_iterator.__next__" :=
  .of (owner := "set_iterator") (n := "__next__") (by rw [typeLookup_type, builtinLookup_eq_fast]; kernel_rfl) (by decide +kernel) (by decide +kernel) (by decide +kernel) (by first | exact .inl (by decide +kernel) | exact .inr (by decide +kernel)) (by rw [isSubtype_type]; kernel_rfl)
theorem entry_si_next : entryFor table "set_iterator.__next__" = some Builtin.«set_iterator.__next__» := entryFor_of_tree (by kernel_rfl)
theorem args_si_next (a : Value) : argsOk "set_iterator.__next__" ⟨[a], []⟩ := by unfold argsOk; kernel_rfl
theorem slot_si_iter : Slot "set_iterator" "__iter__" "set_iterator.__iter__" :=
  .of (owner := "set_iterator") (n := "__iter__") (by rw [typeLookup_type, builtinLookup_eq_fast]; kernel_rfl) (by decide +kernel) (by decide +kernel) (by decide +kernel) (by first | exact .inl (by decide +kernel) | exact .inr (by decide +kernel)) (by rw [isSubtype_type]; kernel_rfl)
theorem args_si_iter (a : Value) : argsOk "set_iterator.__iter__" ⟨[a], []⟩ := by unfold argsOk; kernel_rfl
theorem entry_si_iter : entryFor table "set_iterator.__iter__" = some Builtin.«dict_keyiterator.__iter__» :=
  entryFor_alias (id' := "dict_keyiterator.__iter__") (by kernel_rfl) (by first | rfl | decide +kernel | (unfold String.splitOn; simp +decide [String.splitOnAux])) (by decide +kernel) (by kernel_rfl)
abbrev setIt (slot i : Int) (a : Addr) (n ep : Nat) : Obj := { cls := .type "set_iterator", data := .fields #[rawInt slot, rawInt i, .ref a, rawInt n, rawInt ep] }
def slotAt (t : SetTable) (i : Nat) : Nat := if i = 0 then 0 else t.place.getD (i - 1) 0 + 1
def goesOn (t : SetTable) (n : Nat) : Bool := t.plain && t.led && (t.place.size == n) && (List.range (n + 1)).all fun i => SetTable.below t.place (slotAt t i) == i
section
variable {prog : Program} {w : World} {A : Around} {E : Value -> Shared -> Prop} {s : Shared} {it a : Addr} {o : Obj} {es : Array (Int × Value)} {ep i : Nat} {t : SetTable} {slot : Nat}
theorem byText_ {Q : Bool -> Shared -> Prop} (h : Q (w.params.followText "set-order") s) : wpAny (model prog w) A setsByText Q E s := by
  unfold setsByText
  exact wpAny_bind (wpAny_askSetting (wpAny_pure h))
theorem drawn_no {Q : Bool -> Shared -> Prop} (ho : s.heap.get? a = some o) (hd : o.data = .set es ep t) (hf : t.fits es.size = true) (g : w.params.followText "set-order" = false -> goesOn t es.size = true) (h : Q false s) : wpAny (model prog w) A (setDrawn a) Q E s := by
  unfold setDrawn
  refine wpAny_bind (wpAny_setState_of ho hd hf (wpAny_bind (byText_ (wpAny_pure ?_))))
  cases e : w.params.followText "set-order" with
  | true => exact h
  | false =>
    have pl : t.plain = true := by
      have := g e
      unfold goesOn at this
      simp only [Bool.and_eq_true] at this
      exact this.1.1.1
    show Q (!false && (!t.plain && decide (es.size > 1))) s
    rw [pl]
    exact h
theorem iter_set {Q : Value -> Shared -> Prop} (ho : s.heap.get? a = some o) (hex : o.ExactSet) (hd : o.data = .set es ep t) (hf : t.fits es.size = true) (g : w.params.followText "set-order" = false -> goesOn t es.size = true)
    (q : Q (.ref s.heap.objs.size) { s with heap := s.heap.push (setIt 0 0 a es.size ep) }) : wpAny (model prog w) A (pyIter (.ref a)) Q E s := by
  have ty : s.TypeIs (.ref a) "set" := ⟨o, ho, hex.1⟩
  refine wpAny_pyIter_slot ty F.slot_set_iter (wpAny_call_entry F.slot_set_iter ty entry_set_iter ?_ (F.args_set_iter_1 _))
  unfold Builtin.«frozenset.__iter__»
  refine wpAny_bind (wpAny_of_eq (a := a) rfl (wpAny_bind ?_))
  unfold Builtin.Frozenset.sizeOf setEntries
  refine wpAny_bind (wpAny_bind (wpAny_setState_of ho hd hf (wpAny_pure (wpAny_pure (wpAny_bind (drawn_no ho hd hf g ?_))))))
  simp only [Bool.false_eq_true, if_false]
  refine wpAny_bind (wpAny_pure (wpAny_bind (wpAny_setEpoch_of ho hd hf (wpAny_bind ?_))))
  unfold newFields
  refine wpAny_newObj_type (wpAny_pure ⟨_, rfl, "set_iterator", _, ⟨_, Heap.get?_push_size _ rfl, rfl⟩, slot_si_next.lookup, ?_⟩) (by size_fits)
  exact q
end
def ordOf (w : World) (a : Addr) (ep : Nat) (es : Array (Int × Value)) : Array (Int × Value) := if w.params.followText "set-order" = true then pickOrder (w.params.setOrder a ep) es else es
theorem goes_at {t : SetTable} {n i : Nat} (h : goesOn t n = true) (hi : i <= n) : t.plain = true /\ t.led = true /\ t.place.size = n /\ SetTable.below t.place (slotAt t i) = i := by
  unfold goesOn at h
  simp only [Bool.and_eq_true, beq_iff_eq, List.all_eq_true] at h
  exact ⟨h.1.1.1, h.1.1.2, h.1.2, h.2 i (List.mem_range.mpr (by omega))⟩
section
variable {prog : Program} {w : World} {A : Around} {E : Value -> Shared -> Prop} {s : Shared} {it a : Addr} {o : Obj} {es : Array (Int × Value)} {ep i : Nat} {t : SetTable} {slot : Nat}
theorem setNext_ {Q : Option (Value × Nat) -> Shared -> Prop} (ho : s.heap.get? a = some o) (hd : o.data = .set es ep t) (hf : t.fits es.size = true) (g : w.params.followText "set-order" = false -> goesOn t es.size = true /\ slot = slotAt t i) (hi : i <= es.size)
    (q : ∀ nx, (w.params.followText "set-order" = false -> i < es.size -> nx = slotAt t (i + 1)) -> Q (((ordOf w a ep es)[i]?).map fun e => (e.2, nx)) s) : wpAny (model prog w) A (setNext a slot i ep) Q E s := by
  unfold setNext
  refine wpAny_bind (wpAny_setState_of ho hd hf (wpAny_bind (byText_ ?_)))
  unfold ordOf at q
  cases e : w.params.followText "set-order" with
  | true =>
    rw [e] at q
    simp only [if_true] at q ⊢
    rw [if_neg (by simp)]
    unfold setWalk
    refine wpAny_bind (wpAny_bind (wpAny_setState_of ho hd hf (wpAny_bind (byText_ ?_))))
    rw [e]
    simp only [if_true]
    refine wpAny_bind (wpAny_askSetting (wpAny_pure (wpAny_pure ?_)))
    exact q slot (fun z => nomatch z)
  | false =>
    obtain ⟨gg, es1⟩ := g e
    obtain ⟨p1, p2, p3, p4⟩ := goes_at gg hi
    rw [e] at q
    simp only [Bool.false_eq_true, if_false] at q ⊢
    refine wpAny_ite_split (fun hab => absurd (show (!t.plain && decide (es.size > 1)) = true from hab) (by rw [p1]; simp)) (fun _ => ?_)
    refine wpAny_bind (show wpAny _ _ (if (!t.led && !es.isEmpty) = true then unsupported "set:maker-not-led" else pure ()) _ _ _ from ?_)
    rw [p2, if_neg (by simp)]
    refine wpAny_pure (wpAny_pure ?_)
    rw [es1, p4]
    by_cases lt : i < es.size
    · have e1 : es[i]? = some es[i] := Array.getElem?_eq_getElem lt
      have e2 : t.place[i]? = some t.place[i] := Array.getElem?_eq_getElem (by omega)
      have e3 : t.place.getD i 0 = t.place[i] := by simp [Array.getD, show i < t.place.size by omega]
      have := q (slotAt t (i + 1)) (fun _ _ => rfl)
      rw [e1] at this ⊢
      rw [e2]
      have e4 : slotAt t (i + 1) = t.place[i] + 1 := by
        unfold slotAt
        rw [if_neg (by omega), Nat.add_sub_cancel, e3]
      rw [e4] at this
      exact this
    · have e1 : es[i]? = none := Array.getElem?_eq_none (by omega)
      have := q 0 (fun _ z => absurd z lt)
      rw [e1] at this ⊢
      exact this
theorem next_set {e : Int × Value} {Q : Option Value -> Shared -> Prop} (hit : s.heap.get? it = some (setIt slot i a es.size ep)) (ho : s.heap.get? a = some o) (hd : o.data = .set es ep t) (hf : t.fits es.size = true)
    (g : w.params.followText "set-order" = false -> goesOn t es.size = true /\ slot = slotAt t i) (hi : i < es.size) (hx : (ordOf w a ep es)[i]? = some e)
    (q : ∀ nx h', (w.params.followText "set-order" = false -> nx = slotAt t (i + 1)) -> h'.get? it = some (setIt (nx : Nat) ((i + 1 : Nat) : Int) a es.size ep) -> Heap.SameBut it s.heap h' -> Q (some e.2) { s with heap := h' }) : wpAny (model prog w) A (pyNext (.ref it)) Q E s := by
  have ty : s.TypeIs (.ref it) "set_iterator" := ⟨_, hit, rfl⟩
  unfold pyNext
  refine wpAny_bind (wpAny_attempt (wpAny_callSpecial?_slot (name := Str.ofString "__next__") ty slot_si_next (wpAny_call_entry slot_si_next ty entry_si_next ?_ (args_si_next _))))
  unfold Builtin.«set_iterator.__next__»
  refine wpAny_bind (wpAny_of_eq (a := (Value.ref it, [])) rfl (wpAny_bind (wpAny_fieldsOf hit rfl ?_)))
  show wpAny _ _ (setEntries a >>= _) _ _ s
  unfold setEntries
  refine wpAny_bind (wpAny_bind (wpAny_setState_of ho hd hf (wpAny_pure ?_)))
  rw [if_neg (by simp)]
  show wpAny _ _ (setNext a (slot : Int).toNat (i : Int).toNat (ep : Int).toNat >>= _) _ _ s
  simp only [Int.toNat_natCast]
  refine wpAny_bind (setNext_ ho hd hf g (by omega) fun nx hnx => ?_)
  rw [hx]
  simp only [Option.map_some]
  refine wpAny_bind (wpAny_setField_rec hit (by simp) fun h1 e1 b1 => ?_)
  replace b1 : Heap.SameBut it s.heap h1 := b1
  replace e1 : h1.get? it = some (setIt (nx : Nat) i a es.size ep) := e1
  refine wpAny_bind (wpAny_setField_rec (s := { s with heap := h1 }) e1 (by simp) fun h2 e2 b2 => ?_)
  replace b2 : Heap.SameBut it h1 h2 := b2
  replace e2 : h2.get? it = some (setIt (nx : Nat) ((i : Int) + 1) a es.size ep) := e2
  exact wpAny_pure ⟨_, rfl, wpAny_pure (q nx h2 (fun z => hnx z hi) (by rw [show ((i + 1 : Nat) : Int) = (i : Int) + 1 by omega]; exact e2) (b1.trans b2))⟩
theorem end_set {Q : Option Value -> Shared -> Prop} (hh : A.handled = none) (hit : s.heap.get? it = some (setIt slot i a es.size ep)) (ho : s.heap.get? a = some o) (hd : o.data = .set es ep t) (hf : t.fits es.size = true)
    (g : w.params.followText "set-order" = false -> goesOn t es.size = true /\ slot = slotAt t i) (hi : i = es.size) (hx : (ordOf w a ep es)[i]? = none)
    (q : ∀ h', Heap.ExtBut it s.heap h' -> Q none { s with heap := h' }) : wpAny (model prog w) A (pyNext (.ref it)) Q E s := by
  have ty : s.TypeIs (.ref it) "set_iterator" := ⟨_, hit, rfl⟩
  unfold pyNext
  refine wpAny_bind (wpAny_attempt (wpAny_callSpecial?_slot (name := Str.ofString "__next__") ty slot_si_next (wpAny_call_entry slot_si_next ty entry_si_next ?_ (args_si_next _))))
  unfold Builtin.«set_iterator.__next__»
  refine wpAny_bind (wpAny_of_eq (a := (Value.ref it, [])) rfl (wpAny_bind (wpAny_fieldsOf hit rfl ?_)))
  show wpAny _ _ (setEntries a >>= _) _ _ s
  unfold setEntries
  refine wpAny_bind (wpAny_bind (wpAny_setState_of ho hd hf (wpAny_pure ?_)))
  rw [if_neg (by simp)]
  show wpAny _ _ (setNext a (slot : Int).toNat (i : Int).toNat (ep : Int).toNat >>= _) _ _ s
  simp only [Int.toNat_natCast]
  refine wpAny_bind (setNext_ ho hd hf g (by omega) fun nx hnx => ?_)
  rw [hx]
  simp only [Option.map_none]
  show wpAny _ _ (setField (.ref it) 2 .none >>= _) _ _ s
  refine wpAny_bind (wpAny_setField hit rfl (by simp) ?_)
  show wpAny _ _ (newExc (.type "StopIteration") [] >>= _) _ _ _
  refine wpAny_bind ?_
  simp only [newExc, newTuple]
  refine wpAny_bind (wpAny_newObj_type (wpAny_bind (m := firstArgMember _ _) (wpAny_of_eq (a := Value.none) (by first | rfl | (simp only [firstArgMember]; rfl)) (wpAny_newObj_type ?_ (by size_fits)))) (by size_fits))
  simp only [raiseNew]
  refine wpAny_bind (wpAny_handled ?_)
  rw [show A.in1.handled = none from hh]
  refine wpAny_bind (wpAny_pure (wpAny_throw ?_))
  exact wpAny_bind (wpAny_isInstance (T := "StopIteration") (b := true) ⟨_, Heap.get?_push_size _ rfl, rfl⟩ isSubtype_stop (wpAny_pure (q _ (((Heap.SameBut.update ..).extBut.push _).push _))))
theorem self_set {Q : Value -> Shared -> Prop} (hit : s.heap.get? it = some (setIt slot i a es.size ep)) (h : Q (.ref it) s) : wpAny (model prog w) A (pyIter (.ref it)) Q E s := by
  have ty : s.TypeIs (.ref it) "set_iterator" := ⟨_, hit, rfl⟩
  refine wpAny_pyIter_slot ty slot_si_iter (wpAny_call_entry slot_si_iter ty entry_si_iter ?_ (args_si_iter _))
  show wpAny _ _ (ret (.ref it)) _ _ s
  exact wpAny_pure ⟨_, rfl, "set_iterator", _, ty, slot_si_next.lookup, h⟩
end
theorem pick_go {α : Type} (next : Nat -> Nat) : ∀ (f k : Nat) (l : List α) (out : Array α), f = l.length -> (pickOrder.go next f k l out).toList.Perm (out.toList ++ l)
  | 0, _, l, out, h => by
    have : l = [] := List.eq_nil_of_length_eq_zero h.symm
    subst this
    simp [pickOrder.go]
  | f + 1, k, l, out, h => by
    unfold pickOrder.go
    have pos : 0 < l.length := by omega
    have lt : next k % l.length < l.length := Nat.mod_lt _ pos
    rw [List.getElem?_eq_getElem lt]
    dsimp only
    refine (pick_go next f (k + 1) _ _ (by rw [List.length_eraseIdx, if_pos lt]; omega)).trans ?_
    rw [Array.toList_push, List.append_assoc]
    refine List.Perm.append_left _ ?_
    show (l[next k % l.length] :: l.eraseIdx (next k % l.length)).Perm l
    generalize next k % l.length = j at lt
    have e1 : l.eraseIdx j = l.take j ++ l.drop (j + 1) := List.eraseIdx_eq_take_drop_succ l j
    have e2 : l = l.take j ++ l[j] :: l.drop (j + 1) := by rw [List.getElem_cons_drop]; exact (List.take_append_drop j l).symm
    rw [e1]
    refine List.Perm.trans ?_ (List.Perm.of_eq e2.symm)
    exact List.perm_middle.symm
theorem ord_perm (w : World) (a : Addr) (ep : Nat) (es : Array (Int × Value)) : (ordOf w a ep es).toList.Perm es.toList := by
  unfold ordOf
  split
  · unfold pickOrder
    have := pick_go (w.params.setOrder a ep) es.size 0 es.toList #[] (by simp)
    simpa using this
  · exact List.Perm.refl _
theorem ord_size (w : World) (a : Addr) (ep : Nat) (es : Array (Int × Value)) : (ordOf w a ep es).size = es.size := by have := (ord_perm w a ep es).length_eq; simpa using this
theorem Walks.setW {prog : Program} {w : World} {A : Around} (hh : A.handled = none) (I a : Addr) (ne : a ≠ I) {o : Obj} {es : Array (Int × Value)} {ep : Nat} {t : SetTable} (hd : o.data = .set es ep t) (hf : t.fits es.size = true) (g : w.params.followText "set-order" = false -> goesOn t es.size = true) :
    Walks prog w A I [I, a] [I] es.size (fun i v => ((ordOf w a ep es)[i]?).map (·.2) = some v) (fun i h => i <= es.size /\ (∃ slot : Nat, h.get? I = some (setIt slot i a es.size ep) /\ (w.params.followText "set-order" = false -> slot = slotAt t i)) /\ h.get? a = some o) where
  sub := fun b hb => by simp at hb; simp [hb]
  frame := fun _ _ _ x hk => ⟨x.1, let ⟨sl, e, r⟩ := x.2.1; ⟨sl, hk I (by simp) _ e, r⟩, hk a (by simp) _ x.2.2⟩
  item := fun i s Q E hi x q => by
    obtain ⟨_, ⟨sl, hit, hs⟩, ho⟩ := x
    have e : (ordOf w a ep es)[i]? = some ((ordOf w a ep es)[i]'(by rw [ord_size]; exact hi)) := Array.getElem?_eq_getElem _
    refine next_set hit ho hd hf (fun z => ⟨g z, hs z⟩) hi e fun nx h' hn hit' sb => ?_
    exact q _ h' s.toks (by rw [e]; rfl) ⟨hi, ⟨nx, hit', hn⟩, (sb.2 a ne).trans ho⟩ fun b o hb eo => sb.extBut b o (fun z => hb (by simp [z])) eo
  done := fun s Q E x q => by
    obtain ⟨_, ⟨sl, hit, hs⟩, ho⟩ := x
    exact end_set hh hit ho hd hf (fun z => ⟨g z, hs z⟩) rfl (Array.getElem?_eq_none (by rw [ord_size]; exact Nat.le_refl _)) fun h' eb => q h' s.toks fun b o hb eo => eb b o (fun z => hb (by simp [z])) eo
  self := fun _ _ _ _ x q => let ⟨_, ⟨_, hit, _⟩, _⟩ := x; self_set hit q
section
variable {prog : Program} {w : World} {A : Around} {E : Value -> Shared -> Prop} {s : Shared} {a : Addr} {o : Obj} {es : Array (Int × Value)} {ep : Nat} {t : SetTable}
theorem lookup_set_len : typeLookup (.type "set") "__len__" = pure (some (.builtin "set.__len__")) := by rw [typeLookup_type, builtinLookup_eq_fast]; kernel_rfl
theorem hint_set {Q : Bool -> Shared -> Prop} (ty : s.TypeIs (.ref a) "set") (h : Q false s) : wpAny (model prog w) A (Builtin.List.listLengthHint (.ref a)) Q E s := by
  unfold Builtin.List.listLengthHint
  refine wpAny_bind (wpAny_specialOf ty lookup_set_len ?_)
  generalize hid : ("set.__len__" : String) = id0
  wp_delta
  rw [show splitId id0 = some ("set", "__len__") from by subst hid; decide +kernel]
  subst hid
  refine wpAny_bind (wpAny_isInstance (T := "set") (b := true) ty (by rw [isSubtype_type]; kernel_rfl) ?_)
  refine wpAny_ite_split (fun hab => absurd hab (by decide)) (fun _ => ?_)
  refine wpAny_ite_split (fun _ => ?_) (fun hab => absurd (by decide +kernel) hab)
  refine wpAny_bind (wpAny_typeOf ty ?_)
  exact wpAny_pure h
theorem extend_set {R : Result -> Shared -> Prop} (hh : A.handled = none) (ho : s.heap.get? a = some o) (hex : o.ExactSet) (hd : o.data = .set es ep t) (hf : t.fits es.size = true) (g : w.params.followText "set-order" = false -> goesOn t es.size = true) (hz : es.size <= 1000)
    (S : Addr) (res : Value) (c : Nat) (hS : s.heap.get? S = some { cls := .type "list", data := .seq #[] c })
    (q : ∀ h' tk acc c', (∀ b o, b ≠ S -> s.heap.get? b = some o -> h'.get? b = some o) -> h'.get? S = some { cls := .type "list", dict := none, data := .seq acc c', slots := #[] } ->
      ItemsOf (fun i v => ((ordOf w a ep es)[i]?).map (·.2) = some v) acc es.size -> R (.ok (.ret res)) { s with heap := h', toks := tk }) :
    wpAny (model prog w) A.in1 (Builtin.List.listExtendWith (.ref S) (.ref a) res)
      (fun fin s' => match fin with | .done f => R (.ok f) s' | .again c' => c'.quiet = true /\ codeAny (model prog w) A c' R s') (fun e s' => R (.error e) s') s := by
  have ty : s.TypeIs (.ref a) "set" := ⟨o, ho, hex.1⟩
  have ni : S ≠ a := fun e => by
    rw [<- e, hS] at ho
    cases ho
    cases hd
  have la : a < s.heap.objs.size := Heap.lt_size ho
  have lS : S < s.heap.objs.size := Heap.lt_size hS
  have Wk := (Walks.setW (prog := prog) (w := w) (A := A.in1) hh s.heap.objs.size a (Nat.ne_of_lt la) hd hf g).toS
  have nS : S ∉ [s.heap.objs.size, a] := by
    intro z
    rcases List.mem_cons.mp z with z | z
    · exact Nat.ne_of_lt lS z
    · exact ni (List.mem_singleton.mp z)
  have key : ∀ (h : Heap) (c₁ tk : Nat), h.get? s.heap.objs.size = some (setIt 0 0 a es.size ep) -> (∀ b o, b ≠ S -> s.heap.get? b = some o -> h.get? b = some o) -> h.get? S = some { cls := .type "list", data := .seq #[] c₁ } ->
      codeAny (model prog w) A (.builtin "list.extend.loop" ⟨[.ref S, .ref s.heap.objs.size, res], []⟩) R { s with heap := h, toks := tk } := by
    intro h c₁ tk e1 e2 e3
    refine codeAny_extend_loopS Wk (by rw [sizeLine_eq]; omega) S nS res es.size 0 _ #[] c₁ rfl (Nat.zero_le _) ⟨Nat.zero_le _, ⟨0, e1, fun _ => rfl⟩, e2 a o (Ne.symm ni) ho⟩ e3 (ItemsOf.nil _) fun s' acc c' hm hS' hacc => ?_
    rw [Moved.eq_with hm]
    refine q s'.heap s'.toks acc c' (fun b o hb e => hm.heap b o (fun hmem => ?_) (e2 b o hb e)) hS' hacc
    rcases List.mem_cons.mp hmem with e' | hmem
    · exact hb e'
    · exact absurd (Heap.lt_size e) (by rw [List.mem_singleton.mp hmem]; exact Nat.lt_irrefl _)
  unfold Builtin.List.listExtendWith
  refine wpAny_bind (wpAny_typeOf (T := "set") ty ?_)
  simp only [show Builtin.List.listSameRef (.ref S) (.ref a) = false from by simp [Builtin.List.listSameRef, ni], show (Value.type "set" == Value.type "list") = false from by decide, show (Value.type "set" == Value.type "tuple") = false from by decide, Bool.or_false, Bool.false_eq_true, if_false]
  refine wpAny_bind (iter_set ho hex hd hf g (wpAny_bind (wpAny_holding (hint_set (s := { s with heap := s.heap.push (setIt 0 0 a es.size ep) }) ⟨o, Heap.get?_push_of_some _ ho, hex.1⟩ ?_))))
  have i1 : (s.heap.push (setIt 0 0 a es.size ep)).get? s.heap.objs.size = some (setIt 0 0 a es.size ep) := Heap.get?_push_size _ rfl
  have S1 := Heap.get?_push_of_some (setIt 0 0 a es.size ep) hS
  have nSi : S ≠ s.heap.objs.size := Nat.ne_of_lt lS
  refine wpAny_ite_split (fun _ => ?_) (fun hab => absurd (by decide) hab)
  refine wpAny_bind (wpAny_rule (wpAny_bind ?_))
  show wpAny _ _ (updateSeq S (·.push .none) >>= fun _ => updateSeq S (·.pop)) _ _ _
  refine wpAny_bind (wpAny_updateSeq S1 rfl ?_)
  have S2 := Heap.get?_update_self (Obj.mapSeq (·.push Value.none)) S1 rfl
  refine wpAny_updateSeq (hz := by seq_fits) S2 rfl ?_
  have S3 := Heap.get?_update_self (Obj.mapSeq (·.pop)) S2 rfl
  refine wpAny_pure ⟨plainId_quiet F.plain_extend_loop _, key _ _ _ ?_ (fun b o hb e => ?_) S3⟩
  · exact (Heap.get?_update_other _ _ nSi).trans ((Heap.get?_update_other _ _ nSi).trans i1)
  · exact (Heap.get?_update_other _ _ (Ne.symm hb)).trans ((Heap.get?_update_other _ _ (Ne.symm hb)).trans (Heap.get?_push_of_some _ e))
theorem code_collect_set {R : Result -> Shared -> Prop} (hh : A.handled = none) (ho : s.heap.get? a = some o) (hex : o.ExactSet) (hd : o.data = .set es ep t) (hf : t.fits es.size = true) (g : w.params.followText "set-order" = false -> goesOn t es.size = true) (hz : es.size <= 1000)
    (q : ∀ h' tk acc c', (∀ b o, s.heap.get? b = some o -> h'.get? b = some o) -> h'.get? s.heap.objs.size = some { cls := .type "list", dict := none, data := .seq acc c', slots := #[] } ->
      ItemsOf (fun i v => ((ordOf w a ep es)[i]?).map (·.2) = some v) acc es.size -> R (.ok (.ret (.ref s.heap.objs.size))) { s with heap := h', toks := tk }) : codeAny (model prog w) A (.builtin "proto.collect" ⟨[.ref a], []⟩) R s := by
  have nl : (s.heap.push { cls := .type "list", data := .seq ([] : List Value).toArray }).get? s.heap.objs.size = some { cls := .type "list", data := .seq ([] : List Value).toArray } := Heap.get?_push_size _ rfl
  refine codeAny_builtin PySem.F.entry_proto_collect ?_
  rw [Around.under_plainId PySem.F.plain_proto_collect _]
  show wpAny _ A.in1 (newList [] >>= fun l => again (.builtin "list.__iadd__" ⟨[l, .ref a], []⟩)) _ _ s
  refine wpAny_bind (wpAny_newObj_type (wpAny_pure ⟨plainId_quiet PySem.F.plain_list_iadd _, codeAny_builtin PySem.F.entry_list_iadd ?_⟩))
  rw [Around.under_plainId PySem.F.plain_list_iadd _]
  show wpAny _ A.in1 (Builtin.List.listExtendWith (.ref s.heap.objs.size) (.ref a) (.ref s.heap.objs.size)) _ _ _
  exact extend_set (R := R) (s := { s with heap := s.heap.push { cls := .type "list", data := .seq ([] : List Value).toArray } }) hh (Heap.get?_push_of_some _ ho) hex hd hf g hz s.heap.objs.size _ 0 nl fun h' tk acc c' hk hS' hacc => q h' tk acc c' (fun b o z => hk b o (Nat.ne_of_lt (Heap.lt_size z)) (Heap.get?_push_of_some _ z)) hS' hacc
theorem collect_set {Q : List Value -> Shared -> Prop} (hh : A.handled = none) (ho : s.heap.get? a = some o) (hex : o.ExactSet) (hd : o.data = .set es ep t) (hf : t.fits es.size = true) (g : w.params.followText "set-order" = false -> goesOn t es.size = true) (hz : es.size <= 1000)
    (q : ∀ h' tk, (∀ b o, s.heap.get? b = some o -> h'.get? b = some o) -> s.heap.objs.size < h'.objs.size -> Q ((ordOf w a ep es).toList.map (·.2)) { s with heap := h', toks := tk }) : wpAny (model prog w) A (collect (.ref a)) Q E s := by
  unfold collect
  refine wpAny_bind (wpAny_runValue (code_collect_set hh ho hex hd hf g hz fun h' tk acc c' hk hS' hacc => ?_))
  show wpAny _ A (load s.heap.objs.size >>= _) _ _ _
  refine wpAny_bind (wpAny_load hS' (wpAny_pure ?_))
  have e : acc.toList = (ordOf w a ep es).toList.map (·.2) := by
    apply List.ext_getElem?
    intro i
    by_cases c : i < es.size
    · have ia : i < acc.size := by rw [hacc.1]; exact c
      have e1 := hacc.2 i acc[i] (by simp [ia])
      have e2 : acc.toList[i]? = some acc[i] := by simp [ia]
      rw [e2, List.getElem?_map, Array.getElem?_toList, e1]
    · rw [List.getElem?_eq_none (by rw [Array.length_toList, hacc.1]; omega), List.getElem?_eq_none (by rw [List.length_map, Array.length_toList, ord_size]; omega)]
  rw [e]
  exact q h' tk hk (Heap.lt_size hS')
end
section
variable {prog : Program} {w : World} {A : Around} {E : Value -> Shared -> Prop} {s : Shared} {a : Addr}
end
section
variable {X : Cx}
end
section
variable {prog : Program} {w : World} {A : Around} {E : Value -> Shared -> Prop} {s : Shared}
end
section
variable {X : Cx}
end
end L2
namespace L2
open PySem PySem.W PyProof.Rows
def gallop' : Bool -> Keyed -> Array Keyed -> Nat -> Nat -> Nat -> StateT SortSt Sem (Option Nat) := sortPriv% PySem.Builtin.gallop
section
variable {prog : Program} {w : World} {A : Around} {E : Value -> Shared -> Prop} {s : Shared} {κ : SortKind} {it : Array Keyed} {lt : Nat -> Nat -> Bool} {N : Nat}
def Cmp (prog : Program) (w : World) (A : Around) (κ : SortKind) (it : Array Keyed) (lt : Nat -> Nat -> Bool) (N : Nat) (s : Shared) : Prop := ∀ i j C, i < N -> j < N -> C (lt i j) s -> kas_cmp prog w A κ it i j C s
theorem lt_of {i j : Nat} {st : SortSt} {Q : Option Bool -> SortSt -> Prop} (c : Cmp prog w A κ it lt N s) (hk : kindOf st = κ) (hi : i < N) (hj : j < N) (h : Q (some (lt i j)) st) : wpS (model prog w) A E s (lt' (kas_item it i) (kas_item it j)) Q st := by
  rw [lt'_eq]
  refine wpS_bind (wpS_get ?_)
  rw [hk]
  refine wpS_bind (wpS_lift (wpAny_attempt (wpAny_mono (c i j (fun b s' => s' = s /\ b = lt i j) hi hj ⟨rfl, rfl⟩) (fun b s' z => ?_) fun _ _ hF => hF.elim)))
  obtain ⟨rfl, rfl⟩ := z
  exact ⟨rfl, wpS_pure h⟩
theorem elem_of {q : Array Nat} {i : Nat} {st : SortSt} {Q : Keyed -> SortSt -> Prop} (hi : i < q.size) (h : Q (kas_item it (q.getD i 0)) st) : wpS (model prog w) A E s (elem' (q.map (kas_item it)) i) Q st := by
  rw [elem'_eq]
  have e : (q.map (kas_item it))[i]? = some (kas_item it (q.getD i 0)) := by simp [Array.getD, hi]
  rw [e]
  exact wpS_pure h
def Bey (lt : Nat -> Nat -> Bool) (left : Bool) (k x : Nat) : Bool := if left = true then lt x k else !lt k x
theorem bin_ok {B : Nat -> Bool} {n lo hi : Nat} {st : SortSt} {α : Type} {Q : α -> SortSt -> Prop} {f : Nat -> (Option (Option Nat) × Nat × Nat) -> StateT SortSt Sem (ForInStep (Option (Option Nat) × Nat × Nat))} {g : (Option (Option Nat) × Nat × Nat) -> StateT SortSt Sem α}
    (mono : ∀ i j, i <= j -> j < n -> B j = true -> B i = true)
    (hd : ∀ x lo hi Q', hi <= lo -> Q' (.done (none, lo, hi)) st -> wpS (model prog w) A E s (f x (none, lo, hi)) Q' st)
    (hf : ∀ x lo hi Q', lo < hi -> hi <= n -> (B (lo + (hi - lo) / 2) = true -> Q' (.yield (none, lo + (hi - lo) / 2 + 1, hi)) st) -> (B (lo + (hi - lo) / 2) = false -> Q' (.yield (none, lo, lo + (hi - lo) / 2)) st) -> wpS (model prog w) A E s (f x (none, lo, hi)) Q' st)
    (l1 : lo <= hi) (l2 : hi <= n) (b1 : ∀ i, i < lo -> B i = true) (b2 : ∀ i, hi <= i -> i < n -> B i = false)
    (hg : ∀ lo r, r <= n -> (∀ i, i < r -> B i = true) -> (∀ i, r <= i -> i < n -> B i = false) -> wpS (model prog w) A E s (g (none, lo, r)) Q st) :
    wpS (model prog w) A E s (forIn [:n] ((none, lo, hi) : Option (Option Nat) × Nat × Nat) f >>= g) Q st := by
  refine wpS_bind (wpS_mono (wpS_forRange (I := fun x c st' => st' = st /\ ∃ lo hi, c = (none, lo, hi) /\ lo <= hi /\ hi <= n /\ hi - lo + x <= n /\ (∀ i, i < lo -> B i = true) /\ (∀ i, hi <= i -> i < n -> B i = false))
    (Q := fun c st' => st' = st /\ ∃ lo r, c = (none, lo, r) /\ r <= n /\ (∀ i, i < r -> B i = true) /\ (∀ i, r <= i -> i < n -> B i = false)) ?_ ?_ ⟨rfl, lo, hi, rfl, l1, l2, by omega, b1, b2⟩) ?_)
  · rintro x c st' _ hx ⟨rfl, lo, hi, rfl, l1, l2, l3, b1, b2⟩
    by_cases e : lo < hi
    · refine hf x lo hi _ e l2 (fun z => ⟨rfl, _, _, rfl, by omega, l2, by omega, fun i hi' => mono i _ (by omega) (by omega) z, b2⟩) (fun z => ⟨rfl, _, _, rfl, by omega, by omega, by omega, b1, fun i h1 h2 => ?_⟩)
      cases hB : B i with
      | false => rfl
      | true => rw [mono _ i h1 h2 hB] at z; cases z
    · refine hd x lo hi _ (by omega) ⟨rfl, _, _, rfl, l2, fun i hi' => b1 i (by omega), b2⟩
  · rintro c st' ⟨rfl, lo, hi, rfl, l1, l2, l3, b1, b2⟩
    have : max 0 n = n := by omega
    rw [this] at l3
    exact ⟨rfl, lo, hi, rfl, l2, fun i hi' => b1 i (by omega), b2⟩
  · rintro c st' ⟨rfl, lo, r, rfl, r1, r2, r3⟩
    exact hg lo r r1 r2 r3
theorem gallop_ok {left : Bool} {k : Nat} {q : Array Nat} {base n hint : Nat} {st : SortSt} {Q : Option Nat -> SortSt -> Prop} (c : Cmp prog w A κ it lt N s) (hk : kindOf st = κ) (kN : k < N) (qN : ∀ i, i < q.size -> q.getD i 0 < N) (hb : base + n <= q.size) (hh : hint < n)
    (mono : ∀ i j, i <= j -> j < n -> Bey lt left k (q.getD (base + j) 0) = true -> Bey lt left k (q.getD (base + i) 0) = true)
    (h : ∀ r, r <= n -> (∀ i, i < r -> Bey lt left k (q.getD (base + i) 0) = true) -> (∀ i, r <= i -> i < n -> Bey lt left k (q.getD (base + i) 0) = false) -> Q (some r) st) :
    wpS (model prog w) A E s (gallop' left (kas_item it k) (q.map (kas_item it)) base n hint) Q st := by
  generalize hB : (fun i => Bey lt left k (q.getD (base + i) 0)) = B
  have hB' : ∀ i, Bey lt left k (q.getD (base + i) 0) = B i := fun i => by rw [<- hB]
  simp only [hB'] at mono h
  have bey : ∀ (i : Nat) (Q' : Option Bool -> SortSt -> Prop), i < n -> Q' (some (B i)) st -> wpS (model prog w) A E s (elem' (q.map (kas_item it)) (base + i) >>= fun x => if left = true then lt' x (kas_item it k) else lt' (kas_item it k) x >>= fun r => pure (r.map (!·))) Q' st := by
    intro i Q' hi hq
    rw [<- hB'] at hq
    refine wpS_bind (elem_of (by omega) ?_)
    unfold Bey at hq
    cases left with
    | true =>
      rw [if_pos rfl] at hq ⊢
      exact lt_of c hk (qN _ (by omega)) kN hq
    | false =>
      rw [if_neg (by decide)] at hq ⊢
      exact wpS_bind (lt_of c hk kN (qN _ (by omega)) (wpS_pure hq))
  refine wpS_bind (bey hint _ hh ?_)
  cases b0 : B hint with
  | true =>
    dsimp only
    rw [if_pos rfl]
    refine wpS_bind (wpS_mono (wpS_forRange (I := fun x r st' => st' = st /\ ∃ lo of, r = (none, lo, of) /\ lo < of /\ x < of /\ hint + lo < n /\ B (hint + lo) = true)
      (Q := fun r st' => st' = st /\ ∃ lo of, r = (none, lo, of) /\ lo < of /\ hint + lo < n /\ B (hint + lo) = true /\ (n <= hint + of \/ (hint + of < n /\ B (hint + of) = false))) ?_ ?_ ⟨rfl, 0, 1, rfl, by omega, by omega, by omega, b0⟩) ?_)
    · rintro x r st' _ hx ⟨rfl, lo, of, rfl, l1, l2, l3, l4⟩
      dsimp only
      by_cases e : of >= n - hint
      · rw [if_pos e]
        exact wpS_pure ⟨rfl, lo, of, rfl, l1, l3, l4, .inl (by omega)⟩
      · rw [if_neg e]
        refine wpS_bind (bey (hint + of) _ (by omega) ?_)
        cases b1 : B (hint + of) with
        | true => exact wpS_pure ⟨rfl, of, 2 * of + 1, rfl, by omega, by omega, by omega, b1⟩
        | false => exact wpS_pure ⟨rfl, lo, of, rfl, l1, l3, l4, .inr ⟨by omega, b1⟩⟩
    · rintro r st' ⟨rfl, lo, of, rfl, l1, l2, l3, l4⟩
      exact ⟨rfl, lo, of, rfl, l1, l3, l4, .inl (by omega)⟩
    · rintro r st' ⟨rfl, lo, of, rfl, l1, l3, l4, l5⟩
      dsimp only
      refine bin_ok (B := B) mono ?_ ?_ (by omega) (by omega) (fun i hi => mono i _ (by omega) l3 l4) (fun i h1 h2 => ?_) ?_
      · intro x lo hi Q' e hq
        dsimp only
        rw [if_pos e]
        exact wpS_pure hq
      · intro x lo hi Q' e e2 hq1 hq2
        dsimp only
        rw [if_neg (by omega)]
        refine wpS_bind (bey _ _ (by omega) ?_)
        cases b2 : B (lo + (hi - lo) / 2) with
        | true => exact wpS_pure (hq1 b2)
        | false => exact wpS_pure (hq2 b2)
      · rcases l5 with z | ⟨z, z2⟩
        · omega
        · cases hBi : B i with
          | false => rfl
          | true => rw [mono (hint + of) i (by omega) h2 hBi] at z2; cases z2
      · intro lo r r1 r2 r3
        exact wpS_pure (h r r1 r2 r3)
  | false =>
    dsimp only
    rw [if_neg (by decide)]
    refine wpS_bind (wpS_mono (wpS_forRange (I := fun x r st' => st' = st /\ ∃ lo of, r = (none, lo, of) /\ lo < of /\ x < of /\ lo <= hint /\ B (hint - lo) = false)
      (Q := fun r st' => st' = st /\ ∃ lo of, r = (none, lo, of) /\ lo < of /\ lo <= hint /\ B (hint - lo) = false /\ (hint < of \/ (of <= hint /\ B (hint - of) = true))) ?_ ?_ ⟨rfl, 0, 1, rfl, by omega, by omega, by omega, b0⟩) ?_)
    · rintro x r st' _ hx ⟨rfl, lo, of, rfl, l1, l2, l3, l4⟩
      dsimp only
      by_cases e : of >= hint + 1
      · rw [if_pos e]
        exact wpS_pure ⟨rfl, lo, of, rfl, l1, l3, l4, .inl (by omega)⟩
      · rw [if_neg e]
        refine wpS_bind (bey (hint - of) _ (by omega) ?_)
        cases b1 : B (hint - of) with
        | true => exact wpS_pure ⟨rfl, lo, of, rfl, l1, l3, l4, .inr ⟨by omega, b1⟩⟩
        | false => exact wpS_pure ⟨rfl, of, 2 * of + 1, rfl, by omega, by omega, by omega, b1⟩
    · rintro r st' ⟨rfl, lo, of, rfl, l1, l2, l3, l4⟩
      exact ⟨rfl, lo, of, rfl, l1, l3, l4, .inl (by omega)⟩
    · rintro r st' ⟨rfl, lo, of, rfl, l1, l3, l4, l5⟩
      dsimp only
      refine bin_ok (B := B) mono ?_ ?_ (by omega) (by omega) (fun i hi => ?_) (fun i h1 h2 => ?_) ?_
      · intro x lo hi Q' e hq
        dsimp only
        rw [if_pos e]
        exact wpS_pure hq
      · intro x lo hi Q' e e2 hq1 hq2
        dsimp only
        rw [if_neg (by omega)]
        refine wpS_bind (bey _ _ (by omega) ?_)
        cases b2 : B (lo + (hi - lo) / 2) with
        | true => exact wpS_pure (hq1 b2)
        | false => exact wpS_pure (hq2 b2)
      · rcases l5 with z | ⟨z, z2⟩
        · omega
        · exact mono i (hint - of) (by omega) (by omega) z2
      · cases hBi : B i with
        | false => rfl
        | true => rw [mono (hint - lo) i (by omega) h2 hBi] at l4; cases l4
      · intro lo r r1 r2 r3
        exact wpS_pure (h r r1 r2 r3)
end
end L2
namespace L2
open PySem PySem.W PyProof.Rows
def mergeLo' : Array Keyed -> Array Keyed -> StateT SortSt Sem (Array Keyed) := sortPriv% PySem.Builtin.mergeLo
def mergeHi' : Array Keyed -> Array Keyed -> StateT SortSt Sem (Array Keyed) := sortPriv% PySem.Builtin.mergeHi
def Gs (st st' : SortSt) : Prop := kindOf st' = kindOf st /\ arrOf st' = arrOf st /\ pendingOf st' = pendingOf st /\ failedOf st' = failedOf st
section
variable {lt : Nat -> Nat -> Bool}
abbrev Le (lt : Nat -> Nat -> Bool) (x y : Nat) : Prop := lt y x = false
structure MI (lt : Nat -> Nat -> Bool) (La Lb out : List Nat) (ia ib : Nat) : Prop where
  p : (out ++ (La.drop ia ++ Lb.drop ib)).Perm (La ++ Lb)
  s : out.Pairwise (Le lt)
  c : ∀ x ∈ out, ∀ y ∈ La.drop ia ++ Lb.drop ib, Le lt x y
theorem MI.as {La Lb out : List Nat} {ia ib : Nat} (m : MI lt La Lb out ia ib) (sa : La.Pairwise (Le lt)) (k : Nat) (h : ∀ x ∈ (La.drop ia).take k, ∀ y ∈ Lb.drop ib, Le lt x y) : MI lt La Lb (out ++ (La.drop ia).take k) (ia + k) ib := by
  have e : La.drop (ia + k) = (La.drop ia).drop k := by rw [List.drop_drop]
  have t : (La.drop ia).take k ++ (La.drop ia).drop k = La.drop ia := List.take_append_drop _ _
  have sd : ((La.drop ia).take k ++ (La.drop ia).drop k).Pairwise (Le lt) := by rw [t]; exact sa.sublist (List.drop_sublist _ _)
  obtain ⟨d1, d2, d3⟩ := List.pairwise_append.mp sd
  refine ⟨?_, List.pairwise_append.mpr ⟨m.s, d1, fun x hx y hy => m.c x hx y (List.mem_append_left _ (List.mem_of_mem_take hy))⟩, fun x hx y hy => ?_⟩
  · have := m.p
    rw [<- t] at this
    rw [e]
    simpa [List.append_assoc] using this
  · rw [e] at hy
    rcases List.mem_append.mp hx with hx | hx
    · refine m.c x hx y ?_
      rcases List.mem_append.mp hy with z | z
      · exact List.mem_append_left _ (List.mem_of_mem_drop z)
      · exact List.mem_append_right _ z
    · rcases List.mem_append.mp hy with z | z
      · exact d3 x hx y z
      · exact h x hx y z
theorem MI.bs {La Lb out : List Nat} {ia ib : Nat} (m : MI lt La Lb out ia ib) (sb : Lb.Pairwise (Le lt)) (k : Nat) (h : ∀ x ∈ (Lb.drop ib).take k, ∀ y ∈ La.drop ia, Le lt x y) : MI lt La Lb (out ++ (Lb.drop ib).take k) ia (ib + k) := by
  have e : Lb.drop (ib + k) = (Lb.drop ib).drop k := by rw [List.drop_drop]
  have t : (Lb.drop ib).take k ++ (Lb.drop ib).drop k = Lb.drop ib := List.take_append_drop _ _
  have sd : ((Lb.drop ib).take k ++ (Lb.drop ib).drop k).Pairwise (Le lt) := by rw [t]; exact sb.sublist (List.drop_sublist _ _)
  obtain ⟨d1, d2, d3⟩ := List.pairwise_append.mp sd
  refine ⟨?_, List.pairwise_append.mpr ⟨m.s, d1, fun x hx y hy => m.c x hx y (List.mem_append_right _ (List.mem_of_mem_take hy))⟩, fun x hx y hy => ?_⟩
  · have := m.p
    rw [<- t] at this
    rw [e]
    refine List.Perm.trans ?_ this
    rw [List.append_assoc]
    refine List.Perm.append_left _ ?_
    rw [<- List.append_assoc, <- List.append_assoc]
    exact List.Perm.append_right _ List.perm_append_comm
  · rw [e] at hy
    rcases List.mem_append.mp hx with hx | hx
    · refine m.c x hx y ?_
      rcases List.mem_append.mp hy with z | z
      · exact List.mem_append_left _ z
      · exact List.mem_append_right _ (List.mem_of_mem_drop z)
    · rcases List.mem_append.mp hy with z | z
      · exact h x hx y z
      · exact d3 x hx y z
def Told (lt : Nat -> Nat -> Bool) (it : Array Keyed) (La Lb : List Nat) (res : Array Keyed) : Prop := ∃ L : List Nat, res.toList = L.map (kas_item it) /\ L.Perm (La ++ Lb) /\ L.Pairwise (Le lt)
theorem MI.fin {La Lb out : List Nat} {ia ib : Nat} {it : Array Keyed} {o : Array Keyed} (m : MI lt La Lb out ia ib) (ho : o.toList = out.map (kas_item it)) (sa : La.Pairwise (Le lt)) (sb : Lb.Pairwise (Le lt)) (h : La.drop ia = [] \/ Lb.drop ib = []) :
    Told lt it La Lb (o ++ (La.map (kas_item it)).toArray.extract ia (La.map (kas_item it)).toArray.size ++ (Lb.map (kas_item it)).toArray.extract ib (Lb.map (kas_item it)).toArray.size) := by
  refine ⟨out ++ (La.drop ia ++ Lb.drop ib), ?_, m.p, List.pairwise_append.mpr ⟨m.s, ?_, m.c⟩⟩
  · simp [ho, List.take_of_length_le]
  · rcases h with h | h
    · rw [h, List.nil_append]; exact sb.sublist (List.drop_sublist _ _)
    · rw [h, List.append_nil]; exact sa.sublist (List.drop_sublist _ _)
theorem MI.last {La Lb out : List Nat} {ia ib : Nat} {it : Array Keyed} {o : Array Keyed} (m : MI lt La Lb out ia ib) (ho : o.toList = out.map (kas_item it)) (sa : La.Pairwise (Le lt)) (sb : Lb.Pairwise (Le lt)) (h : ∀ x ∈ Lb, ∀ y ∈ La.drop ia, Le lt x y) :
    Told lt it La Lb (o ++ (Lb.map (kas_item it)).toArray.extract ib (Lb.map (kas_item it)).toArray.size ++ (La.map (kas_item it)).toArray.extract ia (La.map (kas_item it)).toArray.size) := by
  refine ⟨out ++ (Lb.drop ib ++ La.drop ia), ?_, ?_, List.pairwise_append.mpr ⟨m.s, List.pairwise_append.mpr ⟨sb.sublist (List.drop_sublist _ _), sa.sublist (List.drop_sublist _ _), fun x hx y hy => h x (List.mem_of_mem_drop hx) y hy⟩, fun x hx y hy => m.c x hx y ?_⟩⟩
  · simp [ho, List.take_of_length_le]
  · exact (List.Perm.append_left _ List.perm_append_comm).trans m.p
  · rcases List.mem_append.mp hy with z | z
    · exact List.mem_append_right _ z
    · exact List.mem_append_left _ z
end
section
variable {prog : Program} {w : World} {A : Around} {E : Value -> Shared -> Prop} {s : Shared} {κ : SortKind} {it : Array Keyed} {lt : Nat -> Nat -> Bool} {N : Nat}
theorem Le.tr (o : Ord lt) {x y z : Nat} (h1 : Le lt x y) (h2 : Le lt y z) : Le lt x z := o.tr x y z h1 h2
theorem head_le (o : Ord lt) {L : List Nat} {i : Nat} (sL : L.Pairwise (Le lt)) (hi : i < L.length) : ∀ y ∈ L.drop i, Le lt L[i] y := by
  intro y hy
  rw [List.drop_eq_getElem_cons hi] at hy
  rcases List.mem_cons.mp hy with z | z
  · rw [z]; exact o.rf _
  · have := sL.sublist (List.drop_sublist i L)
    rw [List.drop_eq_getElem_cons hi, List.pairwise_cons] at this
    exact this.1 y z
theorem take_one {L : List Nat} {i : Nat} (hi : i < L.length) : (L.drop i).take 1 = [L[i]] := by rw [List.drop_eq_getElem_cons hi]; rfl
theorem wp_ite {α : Type} {c : Prop} [Decidable c] {X Y : StateT SortSt Sem α} {st : SortSt} {Q : α -> SortSt -> Prop} (h1 : c -> wpS (model prog w) A E s X Q st) (h2 : ¬ c -> wpS (model prog w) A E s Y Q st) : wpS (model prog w) A E s (if c then X else Y) Q st := by
  by_cases h : c
  · rw [if_pos h]; exact h1 h
  · rw [if_neg h]; exact h2 h
theorem wp_yes {α : Type} {c : Prop} [Decidable c] {X Y : StateT SortSt Sem α} {st : SortSt} {Q : α -> SortSt -> Prop} (h : c) (h1 : wpS (model prog w) A E s X Q st) : wpS (model prog w) A E s (if c then X else Y) Q st := by rw [if_pos h]; exact h1
theorem wp_no {α : Type} {c : Prop} [Decidable c] {X Y : StateT SortSt Sem α} {st : SortSt} {Q : α -> SortSt -> Prop} (h : ¬ c) (h1 : wpS (model prog w) A E s Y Q st) : wpS (model prog w) A E s (if c then X else Y) Q st := by rw [if_neg h]; exact h1
theorem mem_slice {L : List Nat} {b r x : Nat} (h : x ∈ (L.drop b).take r) : ∃ i, i < r /\ b + i < L.length /\ x = L.getD (b + i) 0 := by
  obtain ⟨i, hi, rfl⟩ := List.getElem_of_mem h
  rw [List.length_take, List.length_drop] at hi
  refine ⟨i, by omega, by omega, ?_⟩
  rw [List.getElem_take, List.getElem_drop, List.getD_eq_getElem?_getD, List.getElem?_eq_getElem (by omega)]
  rfl
theorem mem_dropN {L : List Nat} {b x : Nat} (h : x ∈ L.drop b) : ∃ i, b + i < L.length /\ x = L.getD (b + i) 0 := by
  obtain ⟨i, hi, rfl⟩ := List.getElem_of_mem h
  rw [List.length_drop] at hi
  refine ⟨i, by omega, ?_⟩
  rw [List.getElem_drop, List.getD_eq_getElem?_getD, List.getElem?_eq_getElem (by omega)]
  rfl
theorem gallopL_ok {left : Bool} {k : Nat} {L : List Nat} {base n hint : Nat} {st : SortSt} {Q : Option Nat -> SortSt -> Prop} (c : Cmp prog w A κ it lt N s) (o : Ord lt) (hk : kindOf st = κ) (kN : k < N) (qN : ∀ x ∈ L, x < N) (hb : base + n <= L.length) (hh : hint < n) (sL : L.Pairwise (Le lt))
    (h : ∀ r, r <= n -> (∀ i, i < r -> Bey lt left k (L.getD (base + i) 0) = true) -> (∀ i, r <= i -> i < n -> Bey lt left k (L.getD (base + i) 0) = false) -> Q (some r) st) :
    wpS (model prog w) A E s (gallop' left (kas_item it k) (L.map (kas_item it)).toArray base n hint) Q st := by
  have e : (L.map (kas_item it)).toArray = L.toArray.map (kas_item it) := by simp
  have g : ∀ i, L.toArray.getD i 0 = L.getD i 0 := fun i => by rw [Array.getD_eq_getD_getElem?, List.getD_eq_getElem?_getD]; simp
  rw [e]
  refine gallop_ok c hk kN (fun i hi => ?_) (by simpa using hb) hh (fun i j hij hj hB => ?_) (fun r r1 r2 r3 => h r r1 (fun i hi => ?_) (fun i h1 h2 => ?_))
  · rw [g]
    have hi' : i < L.length := by simpa using hi
    rw [List.getD_eq_getElem?_getD, List.getElem?_eq_getElem hi']
    exact qN _ (List.getElem_mem hi')
  · rw [g] at hB ⊢
    have lij : Le lt (L.getD (base + i) 0) (L.getD (base + j) 0) := by
      have h1 : base + i < L.length := by omega
      have h2 : base + j < L.length := by omega
      rw [List.getD_eq_getElem?_getD, List.getElem?_eq_getElem h1, List.getD_eq_getElem?_getD, List.getElem?_eq_getElem h2]
      by_cases e : i = j
      · subst e; exact o.rf _
      · exact List.pairwise_iff_getElem.mp sL _ _ h1 h2 (by omega)
    unfold Bey at hB ⊢
    cases left with
    | true =>
      rw [if_pos rfl] at hB ⊢
      cases z : lt (L.getD (base + i) 0) k with
      | true => rfl
      | false => rw [Le.tr o (x := k) z lij] at hB; cases hB
    | false =>
      rw [if_neg (by decide)] at hB ⊢
      have hB' : Le lt (L.getD (base + j) 0) k := by simpa using hB
      have := Le.tr o lij hB'
      rw [this]
      rfl
  · have := r2 i hi; rw [g] at this; exact this
  · have := r3 i h1 h2; rw [g] at this; exact this
theorem el_of {L : List Nat} {i : Nat} {st : SortSt} {Q : Keyed -> SortSt -> Prop} (hi : i < L.length) (h : Q (kas_item it L[i]) st) : wpS (model prog w) A E s (elem' (L.map (kas_item it)).toArray i) Q st := by
  rw [elem'_eq]
  have e : (L.map (kas_item it)).toArray[i]? = some (kas_item it L[i]) := by simp [hi]
  rw [e]
  exact wpS_pure h
def At (lt : Nat -> Nat -> Bool) (it : Array Keyed) (La Lb : List Nat) (out : Array Keyed) (ia ib : Nat) : Prop := ∃ L : List Nat, out.toList = L.map (kas_item it) /\ MI lt La Lb L ia ib
theorem At.b1 (o : Ord lt) {La Lb : List Nat} {out : Array Keyed} {ia ib : Nat} (h : At lt it La Lb out ia ib) (sb : Lb.Pairwise (Le lt)) (hi : ib < Lb.length) (hle : ∀ y ∈ La.drop ia, Le lt Lb[ib] y) : At lt it La Lb (out.push (kas_item it Lb[ib])) ia (ib + 1) := by
  obtain ⟨L, e, m⟩ := h
  have := m.bs sb 1 (by rw [take_one hi]; intro x hx; rw [List.mem_singleton.mp hx]; exact hle)
  rw [take_one hi] at this
  exact ⟨_, by rw [Array.toList_push, e, List.map_append]; rfl, this⟩
theorem At.a1 (o : Ord lt) {La Lb : List Nat} {out : Array Keyed} {ia ib : Nat} (h : At lt it La Lb out ia ib) (sa : La.Pairwise (Le lt)) (hi : ia < La.length) (hle : ∀ y ∈ Lb.drop ib, Le lt La[ia] y) : At lt it La Lb (out.push (kas_item it La[ia])) (ia + 1) ib := by
  obtain ⟨L, e, m⟩ := h
  have := m.as sa 1 (by rw [take_one hi]; intro x hx; rw [List.mem_singleton.mp hx]; exact hle)
  rw [take_one hi] at this
  exact ⟨_, by rw [Array.toList_push, e, List.map_append]; rfl, this⟩
theorem At.an {La Lb : List Nat} {out : Array Keyed} {ia ib : Nat} (h : At lt it La Lb out ia ib) (sa : La.Pairwise (Le lt)) (k : Nat) (hle : ∀ x ∈ (La.drop ia).take k, ∀ y ∈ Lb.drop ib, Le lt x y) : At lt it La Lb (out ++ (La.map (kas_item it)).toArray.extract ia (ia + k)) (ia + k) ib := by
  obtain ⟨L, e, m⟩ := h
  exact ⟨_, by simp [e, List.map_take, List.map_drop], m.as sa k hle⟩
theorem At.bn {La Lb : List Nat} {out : Array Keyed} {ia ib : Nat} (h : At lt it La Lb out ia ib) (sb : Lb.Pairwise (Le lt)) (k : Nat) (hle : ∀ x ∈ (Lb.drop ib).take k, ∀ y ∈ La.drop ia, Le lt x y) : At lt it La Lb (out ++ (Lb.map (kas_item it)).toArray.extract ib (ib + k)) ia (ib + k) := by
  obtain ⟨L, e, m⟩ := h
  exact ⟨_, by simp [e, List.map_take, List.map_drop], m.bs sb k hle⟩
end
end L2
namespace L2
open PySem PySem.W PyProof.Rows
section
variable {prog : Program} {w : World} {A : Around} {E : Value -> Shared -> Prop} {s : Shared} {κ : SortKind} {it : Array Keyed} {lt : Nat -> Nat -> Bool} {N : Nat}
theorem Gs.refl (st : SortSt) : Gs st st := ⟨rfl, rfl, rfl, rfl⟩
theorem Told.fin {La Lb : List Nat} {out : Array Keyed} {ia ib : Nat} (h : At lt it La Lb out ia ib) (sa : La.Pairwise (Le lt)) (sb : Lb.Pairwise (Le lt)) (z : La.length <= ia \/ Lb.length <= ib) :
    Told lt it La Lb (out ++ (La.map (kas_item it)).toArray.extract ia (La.map (kas_item it)).toArray.size ++ (Lb.map (kas_item it)).toArray.extract ib (Lb.map (kas_item it)).toArray.size) := by
  obtain ⟨L, e, m⟩ := h
  exact m.fin e sa sb (z.elim (fun z => .inl (List.drop_eq_nil_of_le z)) fun z => .inr (List.drop_eq_nil_of_le z))
theorem Told.last {La Lb : List Nat} {out : Array Keyed} {ia ib : Nat} (h : At lt it La Lb out ia ib) (sa : La.Pairwise (Le lt)) (sb : Lb.Pairwise (Le lt)) (hl : ∀ x ∈ Lb, ∀ y ∈ La.drop (La.length - 1), Le lt x y) (z : ia + 1 = La.length) :
    Told lt it La Lb (out ++ (Lb.map (kas_item it)).toArray.extract ib (Lb.map (kas_item it)).toArray.size ++ (La.map (kas_item it)).toArray.extract ia (La.map (kas_item it)).toArray.size) := by
  obtain ⟨L, e, m⟩ := h
  have : ia = La.length - 1 := by omega
  subst this
  exact m.last e sa sb hl
theorem mergeLo_ok {La Lb : List Nat} {st : SortSt} {Q : Array Keyed -> SortSt -> Prop} (c : Cmp prog w A κ it lt N s) (o : Ord lt) (hk : kindOf st = κ) (aN : ∀ x ∈ La, x < N) (bN : ∀ x ∈ Lb, x < N) (sa : La.Pairwise (Le lt)) (sb : Lb.Pairwise (Le lt)) (ha : 0 < La.length) (hb : 0 < Lb.length)
    (hf : ∀ y ∈ La, Le lt Lb[0] y) (hl : ∀ x ∈ Lb, ∀ y ∈ La.drop (La.length - 1), Le lt x y) (h : ∀ res st', Gs st st' -> Told lt it La Lb res -> Q res st') : wpS (model prog w) A E s (mergeLo' (La.map (kas_item it)).toArray (Lb.map (kas_item it)).toArray) Q st := by
  refine wpS_bind ?_
  refine wpS_lift (wpAny_rule ⟨rfl, ?_⟩)
  dsimp only
  refine wpS_bind (el_of hb ?_)
  have sz : ∀ L : List Nat, (L.map (kas_item it)).toArray.size = L.length := fun L => by simp
  have at0 : At lt it La Lb #[kas_item it Lb[0]] 0 1 := by
    have m0 : MI lt La Lb [] 0 0 := ⟨by simp, .nil, fun x hx => nomatch hx⟩
    have := At.b1 (it := it) o (out := #[]) ⟨[], rfl, m0⟩ sb hb (by simpa using hf)
    exact this
  by_cases e1 : 1 = Lb.length
  · rw [if_pos (by simp [e1])]
    exact wpS_pure (h _ _ (Gs.refl _) (Told.fin at0 sa sb (.inr (by omega))))
  rw [if_neg (by simp [e1])]
  by_cases e2 : 0 + 1 = La.length
  · rw [if_pos (by simp; omega)]
    exact wpS_pure (h _ _ (Gs.refl _) (Told.last at0 sa sb hl e2))
  rw [if_neg (by simp; omega)]
  refine wpS_bind (wpS_get ?_)
  generalize gallopOf st = mg0
  refine wpS_bind (wpS_mono (wpS_forRange
    (I := fun x r st' => Gs st st' /\ ∃ out ia ib mg, r = (none, out, ia, ib, mg) /\ At lt it La Lb out ia ib /\ ia + 1 < La.length /\ ib < Lb.length /\ x + 1 <= ia + ib)
    (Q := fun r st' => Gs st st' /\ ∃ res z, r = (some res, z) /\ Told lt it La Lb res) ?_ ?_ ⟨Gs.refl _, _, 0, 1, _, rfl, at0, by omega, by omega, by omega⟩) ?_)
  rotate_left
  · rintro r st' ⟨_, out, ia, ib, mg, rfl, a1, a2, a3, a4⟩
    exfalso
    rw [sz, sz] at a4
    omega
  · rintro r st' ⟨g, res, z, rfl, t⟩
    exact wpS_pure (h _ _ g t)
  rintro x r st1 _ hx ⟨g1, out, ia, ib, mg, rfl, a1, a2, a3, a4⟩
  dsimp only
  refine wpS_bind (wpS_mono (wpS_forRange
    (I := fun y r st' => st' = st1 /\ ∃ out' ia' ib' ac bc, r = (none, out', ia', ib', ac, bc) /\ At lt it La Lb out' ia' ib' /\ ia' + 1 < La.length /\ ib' < Lb.length /\ ia + ib + y <= ia' + ib')
    (Q := fun r st' => st' = st1 /\ ((∃ res z, r = (some res, z) /\ Told lt it La Lb res) \/ ∃ out' ia' ib' ac bc, r = (none, out', ia', ib', ac, bc) /\ At lt it La Lb out' ia' ib' /\ ia' + 1 < La.length /\ ib' < Lb.length /\ ia + ib + 1 <= ia' + ib')) ?_ ?_ ⟨rfl, _, _, _, _, _, rfl, a1, a2, a3, by omega⟩) ?_)
  · rintro y r st' _ hy ⟨rfl, out, ia', ib', ac, bc, rfl, b1, b2, b3, b4⟩
    dsimp only
    refine wpS_bind (el_of b3 (wpS_bind (el_of (show ia' < La.length by omega) (wpS_bind (lt_of c (g1.1.trans hk) (bN _ (List.getElem_mem _)) (aN _ (List.getElem_mem _)) ?_)))))
    cases w1 : lt Lb[ib'] La[ia'] with
    | true =>
      dsimp only
      rw [if_pos rfl]
      refine wpS_bind (el_of b3 ?_)
      have n1 := At.b1 o b1 sb b3 fun z hz => Le.tr o (o.as _ _ w1) (head_le o sa (by omega) z hz)
      by_cases f1 : ib' + 1 = Lb.length
      · rw [if_pos (by simp [f1])]
        exact wpS_pure ⟨rfl, .inl ⟨_, _, rfl, Told.fin n1 sa sb (.inr (by omega))⟩⟩
      · rw [if_neg (by simp [f1])]
        split
        · exact wpS_pure ⟨rfl, .inr ⟨_, _, _, _, _, rfl, n1, b2, by omega, by omega⟩⟩
        · exact wpS_pure ⟨rfl, _, _, _, _, _, rfl, n1, b2, by omega, by omega⟩
    | false =>
      dsimp only
      rw [if_neg (by decide)]
      refine wpS_bind (el_of (show ia' < La.length by omega) ?_)
      have n1 := At.a1 o b1 sa (show ia' < La.length by omega) fun z hz => Le.tr o w1 (head_le o sb b3 z hz)
      by_cases f1 : ia' + 1 + 1 = La.length
      · rw [if_pos (by simp [f1])]
        exact wpS_pure ⟨rfl, .inl ⟨_, _, rfl, Told.last n1 sa sb hl f1⟩⟩
      · rw [if_neg (by simp [f1])]
        split
        · exact wpS_pure ⟨rfl, .inr ⟨_, _, _, _, _, rfl, n1, by omega, b3, by omega⟩⟩
        · exact wpS_pure ⟨rfl, _, _, _, _, _, rfl, n1, by omega, b3, by omega⟩
  · rintro r st' ⟨_, out, ia', ib', ac, bc, rfl, b1, b2, b3, b4⟩
    exfalso
    rw [sz, sz] at b4
    omega
  rintro r st' ⟨rfl, z⟩
  rcases z with ⟨res, z, rfl, t⟩ | ⟨out2, ia2, ib2, ac, bc, rfl, b1, b2, b3, b4⟩
  · dsimp only
    exact wpS_pure ⟨g1, _, _, rfl, t⟩
  dsimp only
  refine wpS_bind (wpS_lift (wpAny_rule ⟨rfl, ?_⟩))
  refine wpS_bind (wpS_mono (wpS_forRange
    (I := fun y r st' => Gs st st' /\ ∃ out' ia' ib' mg ac bc, r = (none, out', ia', ib', mg, ac, bc) /\ At lt it La Lb out' ia' ib' /\ ia' + 1 < La.length /\ ib' < Lb.length /\ ia + ib + 1 + y <= ia' + ib')
    (Q := fun r st' => Gs st st' /\ ((∃ res z, r = (some res, z) /\ Told lt it La Lb res) \/ ∃ out' ia' ib' mg ac bc, r = (none, out', ia', ib', mg, ac, bc) /\ At lt it La Lb out' ia' ib' /\ ia' + 1 < La.length /\ ib' < Lb.length /\ ia + ib + 1 <= ia' + ib')) ?_ ?_ ⟨g1, _, _, _, _, _, _, rfl, b1, b2, b3, by omega⟩) ?_)
  rotate_left
  · rintro r st' ⟨_, out, ia', ib', mg, ac, bc, rfl, b1, b2, b3, b4⟩
    exfalso
    rw [sz, sz] at b4
    omega
  · rintro r st' ⟨g2, z⟩
    rcases z with ⟨res, z, rfl, t⟩ | ⟨out3, ia3, ib3, mg3, ac3, bc3, rfl, d1, d2, d3, d4⟩
    · dsimp only
      exact wpS_pure ⟨g2, _, _, rfl, t⟩
    · dsimp only
      refine wpS_bind (wpS_modify (wpS_pure ⟨⟨g2.1, g2.2.1, g2.2.2.1, g2.2.2.2⟩, _, _, _, _, rfl, d1, d2, d3, by omega⟩))
  clear b1 b2 b3 b4 a1 a2 a3
  rintro y r st2 _ hy ⟨g2, out, ia', ib', mg, ac, bc, rfl, b1, b2, b3, b4⟩
  dsimp only
  refine wp_ite (fun _ => ?_) (fun _ => ?_)
  all_goals
    refine wpS_bind (wpS_modify ?_)
    refine wpS_bind (el_of b3 ?_)
    refine wpS_bind (gallopL_ok c o (by exact g2.1.trans hk) (bN _ (List.getElem_mem _)) aN (by rw [sz]; omega) (by rw [sz]; omega) sa fun k k1 k2 k3 => ?_)
    rw [sz] at k1 k3
    dsimp only
    have A1 := b1.an sa k fun x hx y hy => by
      obtain ⟨j, j1, j2, rfl⟩ := mem_slice hx
      have := k2 j j1
      unfold Bey at this
      rw [if_neg (by decide)] at this
      exact Le.tr o (show Le lt _ Lb[ib'] by simpa using this) (head_le o sb b3 y hy)
    have R1 : ∀ y ∈ La.drop (ia' + k), Le lt Lb[ib'] y := fun y hy => by
      obtain ⟨j, j1, rfl⟩ := mem_dropN hy
      have := k3 (k + j) (by omega) (by omega)
      unfold Bey at this
      rw [if_neg (by decide), <- Nat.add_assoc] at this
      exact o.as _ _ (by simpa using this)
    by_cases kp : k > 0
    case' pos =>
      refine wp_yes kp ?_
      by_cases f1 : ia' + k + 1 = La.length
      · refine wp_yes (by simp [f1]) ?_
        exact wpS_pure ⟨⟨g2.1, g2.2.1, g2.2.2.1, g2.2.2.2⟩, .inl ⟨_, _, rfl, Told.last A1 sa sb hl f1⟩⟩
      refine wp_no (by simp [f1]) ?_
      by_cases f2 : ia' + k = La.length
      · refine wp_yes (by simp [f2]) ?_
        exact wpS_pure ⟨⟨g2.1, g2.2.1, g2.2.2.1, g2.2.2.2⟩, .inl ⟨_, _, rfl, Told.fin A1 sa sb (.inl (by omega))⟩⟩
      refine wp_no (by simp [f2]) ?_
      have i3 : ia' + k + 1 < La.length := by omega
      have i4 : ia' <= ia' + k := by omega
      generalize out ++ (La.map (kas_item it)).toArray.extract ia' (ia' + k) = o2 at A1 ⊢
      generalize ia' + k = i2 at A1 R1 i3 i4 ⊢
    case' neg =>
      refine wp_no kp ?_
      have k0 : k = 0 := by omega
      rw [k0] at R1
      have i3 : ia' + 1 < La.length := b2
      have i4 : ia' <= ia' := Nat.le_refl _
      clear A1
      have A1 := b1
      generalize hi2 : ia' + 0 = i2 at R1
      rw [Nat.add_zero] at hi2
      rw [hi2] at i3 i4 A1 ⊢
      generalize out = o2 at A1 ⊢
    all_goals
      refine wpS_bind (el_of b3 ?_)
      have A2 := At.b1 o A1 sb b3 R1
      by_cases f3 : ib' + 1 = Lb.length
      · refine wp_yes (by simp [f3]) ?_
        exact wpS_pure ⟨⟨g2.1, g2.2.1, g2.2.2.1, g2.2.2.2⟩, .inl ⟨_, _, rfl, Told.fin A2 sa sb (.inr (by omega))⟩⟩
      refine wp_no (by simp [f3]) ?_
      refine wpS_bind (el_of (show i2 < La.length by omega) ?_)
      refine wpS_bind (gallopL_ok c o (by exact g2.1.trans hk) (aN _ (List.getElem_mem _)) bN (by rw [sz]; omega) (by rw [sz]; omega) sb fun m m1 m2 m3 => ?_)
      rw [sz] at m1 m3
      dsimp only
      have A3 := A2.bn sb m fun x hx y hy => by
        obtain ⟨j, j1, j2, rfl⟩ := mem_slice hx
        have := m2 j j1
        unfold Bey at this
        rw [if_pos rfl] at this
        exact Le.tr o (o.as _ _ this) (head_le o sa (by omega) y hy)
      have R3 : ∀ y ∈ Lb.drop (ib' + 1 + m), Le lt La[i2] y := fun y hy => by
        obtain ⟨j, j1, rfl⟩ := mem_dropN hy
        have := m3 (m + j) (by omega) (by omega)
        unfold Bey at this
        rw [if_pos rfl, <- Nat.add_assoc] at this
        exact this
      have i5 : ib' + 1 < Lb.length := by omega
      by_cases mp : m > 0
      case' pos =>
        refine wp_yes mp ?_
        by_cases f4 : ib' + 1 + m = Lb.length
        · refine wp_yes (by simp [f4]) ?_
          exact wpS_pure ⟨⟨g2.1, g2.2.1, g2.2.2.1, g2.2.2.2⟩, .inl ⟨_, _, rfl, Told.fin A3 sa sb (.inr (by omega))⟩⟩
        refine wp_no (by simp [f4]) ?_
        have j3 : ib' + 1 + m < Lb.length := by omega
        have j4 : ib' + 1 <= ib' + 1 + m := by omega
        generalize o2.push (kas_item it Lb[ib']) ++ (Lb.map (kas_item it)).toArray.extract (ib' + 1) (ib' + 1 + m) = o3 at A3 ⊢
        generalize ib' + 1 + m = j2 at A3 R3 j3 j4 ⊢
      case' neg =>
        refine wp_no mp ?_
        have m0 : m = 0 := by omega
        rw [m0] at R3
        have j3 : ib' + 1 < Lb.length := i5
        have j4 : ib' + 1 <= ib' + 1 := Nat.le_refl _
        clear A3
        have A3 := A2
        rw [Nat.add_zero] at R3
        generalize hj2 : ib' + 1 = j2 at A3 R3 j3 j4 ⊢
        rw [<- hj2] at j4
        generalize o2.push (kas_item it Lb[ib']) = o3 at A3 ⊢
      all_goals
        refine wpS_bind (el_of (show i2 < La.length by omega) ?_)
        have A4 := At.a1 o A3 sa (show i2 < La.length by omega) R3
        by_cases f5 : i2 + 1 + 1 = La.length
        · refine wp_yes (by simp [f5]) ?_
          exact wpS_pure ⟨⟨g2.1, g2.2.1, g2.2.2.1, g2.2.2.2⟩, .inl ⟨_, _, rfl, Told.last A4 sa sb hl f5⟩⟩
        refine wp_no (by simp [f5]) (wp_ite (fun _ => ?_) (fun _ => ?_))
        · exact wpS_pure ⟨⟨g2.1, g2.2.1, g2.2.2.1, g2.2.2.2⟩, .inr ⟨_, _, _, _, _, _, rfl, A4, by omega, j3, by omega⟩⟩
        · exact wpS_pure ⟨⟨g2.1, g2.2.1, g2.2.2.1, g2.2.2.2⟩, _, _, _, _, _, _, rfl, A4, by omega, j3, by omega⟩
end
end L2
namespace L2
open PySem PySem.W PyProof.Rows
section
variable {prog : Program} {w : World} {A : Around} {E : Value -> Shared -> Prop} {s : Shared} {κ : SortKind} {it : Array Keyed} {lt : Nat -> Nat -> Bool} {N : Nat}
structure MH (lt : Nat -> Nat -> Bool) (La Lb R : List Nat) (na nb : Nat) : Prop where
  p : ((La.take na ++ Lb.take nb) ++ R).Perm (La ++ Lb)
  s : R.Pairwise (Le lt)
  c : ∀ x ∈ La.take na ++ Lb.take nb, ∀ y ∈ R, Le lt x y
theorem MH.as {La Lb R : List Nat} {na nb : Nat} (m : MH lt La Lb R na nb) (sa : La.Pairwise (Le lt)) (j : Nat) (hj : j <= na) (h : ∀ x ∈ Lb.take nb, ∀ y ∈ (La.take na).drop j, Le lt x y) : MH lt La Lb ((La.take na).drop j ++ R) j nb := by
  have e : La.take j = (La.take na).take j := by rw [List.take_take, Nat.min_eq_left hj]
  have t : (La.take na).take j ++ (La.take na).drop j = La.take na := List.take_append_drop _ _
  have sd : ((La.take na).take j ++ (La.take na).drop j).Pairwise (Le lt) := by rw [t]; exact sa.sublist (List.take_sublist _ _)
  obtain ⟨d1, d2, d3⟩ := List.pairwise_append.mp sd
  refine ⟨?_, List.pairwise_append.mpr ⟨d2, m.s, fun x hx y hy => m.c x (List.mem_append_left _ (List.mem_of_mem_drop hx)) y hy⟩, fun x hx y hy => ?_⟩
  · refine List.Perm.trans ?_ m.p
    rw [e, <- List.append_assoc]
    refine List.Perm.append_right _ ?_
    conv => rhs; rw [<- t]
    rw [List.append_assoc, List.append_assoc]
    exact List.Perm.append_left _ List.perm_append_comm
  · rw [e] at hx
    rcases List.mem_append.mp hy with hy | hy
    · rcases List.mem_append.mp hx with z | z
      · exact d3 x z y hy
      · exact h x z y hy
    · refine m.c x ?_ y hy
      rcases List.mem_append.mp hx with z | z
      · exact List.mem_append_left _ (List.mem_of_mem_take z)
      · exact List.mem_append_right _ z
theorem MH.bs {La Lb R : List Nat} {na nb : Nat} (m : MH lt La Lb R na nb) (sb : Lb.Pairwise (Le lt)) (j : Nat) (hj : j <= nb) (h : ∀ x ∈ La.take na, ∀ y ∈ (Lb.take nb).drop j, Le lt x y) : MH lt La Lb ((Lb.take nb).drop j ++ R) na j := by
  have e : Lb.take j = (Lb.take nb).take j := by rw [List.take_take, Nat.min_eq_left hj]
  have t : (Lb.take nb).take j ++ (Lb.take nb).drop j = Lb.take nb := List.take_append_drop _ _
  have sd : ((Lb.take nb).take j ++ (Lb.take nb).drop j).Pairwise (Le lt) := by rw [t]; exact sb.sublist (List.take_sublist _ _)
  obtain ⟨d1, d2, d3⟩ := List.pairwise_append.mp sd
  refine ⟨?_, List.pairwise_append.mpr ⟨d2, m.s, fun x hx y hy => m.c x (List.mem_append_right _ (List.mem_of_mem_drop hx)) y hy⟩, fun x hx y hy => ?_⟩
  · refine List.Perm.trans ?_ m.p
    rw [e, <- List.append_assoc, List.append_assoc (La.take na), t]
  · rw [e] at hx
    rcases List.mem_append.mp hy with hy | hy
    · rcases List.mem_append.mp hx with z | z
      · exact h x z y hy
      · exact d3 x z y hy
    · refine m.c x ?_ y hy
      rcases List.mem_append.mp hx with z | z
      · exact List.mem_append_left _ z
      · exact List.mem_append_right _ (List.mem_of_mem_take z)
def Ah (lt : Nat -> Nat -> Bool) (it : Array Keyed) (La Lb : List Nat) (out : Array Keyed) (na nb : Nat) : Prop := ∃ R : List Nat, out.toList = R.reverse.map (kas_item it) /\ MH lt La Lb R na nb
theorem last_one {L : List Nat} {n : Nat} (h0 : 0 < n) (hn : n <= L.length) : (L.take n).drop (n - 1) = [L[n - 1]] := by
  rw [List.drop_take, List.drop_eq_getElem_cons (show n - 1 < L.length by omega), show n - (n - 1) = 1 by omega]
  rfl
theorem last_ge (o : Ord lt) {L : List Nat} {n : Nat} (sL : L.Pairwise (Le lt)) (h0 : 0 < n) (hn : n <= L.length) : ∀ x ∈ L.take n, Le lt x L[n - 1] := by
  intro x hx
  obtain ⟨i, hi, rfl⟩ := List.getElem_of_mem hx
  rw [List.length_take] at hi
  rw [List.getElem_take]
  by_cases e : i = n - 1
  · subst e; exact o.rf _
  · exact List.pairwise_iff_getElem.mp sL _ _ (by omega) (by omega) (by omega)
theorem Ah.a1 {La Lb : List Nat} {out : Array Keyed} {na nb : Nat} (h : Ah lt it La Lb out na nb) (sa : La.Pairwise (Le lt)) (h0 : 0 < na) (hn : na <= La.length) (hle : ∀ x ∈ Lb.take nb, Le lt x La[na - 1]) : Ah lt it La Lb (out.push (kas_item it La[na - 1])) (na - 1) nb := by
  obtain ⟨R, e, m⟩ := h
  have := m.as sa (na - 1) (by omega) (by rw [last_one h0 hn]; intro x hx y hy; rw [List.mem_singleton.mp hy]; exact hle x hx)
  rw [last_one h0 hn] at this
  exact ⟨_, by rw [Array.toList_push, e]; simp, this⟩
theorem Ah.b1 {La Lb : List Nat} {out : Array Keyed} {na nb : Nat} (h : Ah lt it La Lb out na nb) (sb : Lb.Pairwise (Le lt)) (h0 : 0 < nb) (hn : nb <= Lb.length) (hle : ∀ x ∈ La.take na, Le lt x Lb[nb - 1]) : Ah lt it La Lb (out.push (kas_item it Lb[nb - 1])) na (nb - 1) := by
  obtain ⟨R, e, m⟩ := h
  have := m.bs sb (nb - 1) (by omega) (by rw [last_one h0 hn]; intro x hx y hy; rw [List.mem_singleton.mp hy]; exact hle x hx)
  rw [last_one h0 hn] at this
  exact ⟨_, by rw [Array.toList_push, e]; simp, this⟩
theorem Ah.an {La Lb : List Nat} {out : Array Keyed} {na nb : Nat} (h : Ah lt it La Lb out na nb) (sa : La.Pairwise (Le lt)) (j : Nat) (hj : j <= na) (hle : ∀ x ∈ Lb.take nb, ∀ y ∈ (La.take na).drop j, Le lt x y) : Ah lt it La Lb (out ++ ((La.map (kas_item it)).toArray.extract j na).reverse) j nb := by
  obtain ⟨R, e, m⟩ := h
  exact ⟨_, by simp [e, List.drop_take, List.map_take, List.map_drop], m.as sa j hj hle⟩
theorem Ah.bn {La Lb : List Nat} {out : Array Keyed} {na nb : Nat} (h : Ah lt it La Lb out na nb) (sb : Lb.Pairwise (Le lt)) (j : Nat) (hj : j <= nb) (hle : ∀ x ∈ La.take na, ∀ y ∈ (Lb.take nb).drop j, Le lt x y) : Ah lt it La Lb (out ++ ((Lb.map (kas_item it)).toArray.extract j nb).reverse) na j := by
  obtain ⟨R, e, m⟩ := h
  exact ⟨_, by simp [e, List.drop_take, List.map_take, List.map_drop], m.bs sb j hj hle⟩
theorem Told.hi {La Lb : List Nat} {out : Array Keyed} {na nb : Nat} (h : Ah lt it La Lb out na nb) (sa : La.Pairwise (Le lt)) (sb : Lb.Pairwise (Le lt)) (z : na = 0 \/ nb = 0) :
    Told lt it La Lb ((La.map (kas_item it)).toArray.extract 0 na ++ (Lb.map (kas_item it)).toArray.extract 0 nb ++ out.reverse) := by
  obtain ⟨R, e, m⟩ := h
  refine ⟨(La.take na ++ Lb.take nb) ++ R, by simp [e, List.map_take], m.p, List.pairwise_append.mpr ⟨?_, m.s, m.c⟩⟩
  rcases z with z | z
  · rw [z, List.take_zero, List.nil_append]; exact sb.sublist (List.take_sublist _ _)
  · rw [z, List.take_zero, List.append_nil]; exact sa.sublist (List.take_sublist _ _)
theorem Told.first {La Lb : List Nat} {out : Array Keyed} {na nb : Nat} (h : Ah lt it La Lb out na nb) (sa : La.Pairwise (Le lt)) (sb : Lb.Pairwise (Le lt)) (z : ∀ x ∈ Lb.take nb, ∀ y ∈ La, Le lt x y) :
    Told lt it La Lb ((Lb.map (kas_item it)).toArray.extract 0 nb ++ (La.map (kas_item it)).toArray.extract 0 na ++ out.reverse) := by
  obtain ⟨R, e, m⟩ := h
  refine ⟨(Lb.take nb ++ La.take na) ++ R, by simp [e, List.map_take], (List.Perm.append_right _ List.perm_append_comm).trans m.p, List.pairwise_append.mpr ⟨List.pairwise_append.mpr ⟨sb.sublist (List.take_sublist _ _), sa.sublist (List.take_sublist _ _), fun x hx y hy => z x hx y (List.mem_of_mem_take hy)⟩, m.s, fun x hx y hy => m.c x ?_ y hy⟩⟩
  rcases List.mem_append.mp hx with z | z
  · exact List.mem_append_right _ z
  · exact List.mem_append_left _ z
theorem mergeHi_ok {La Lb : List Nat} {st : SortSt} {Q : Array Keyed -> SortSt -> Prop} (c : Cmp prog w A κ it lt N s) (o : Ord lt) (hk : kindOf st = κ) (aN : ∀ x ∈ La, x < N) (bN : ∀ x ∈ Lb, x < N) (sa : La.Pairwise (Le lt)) (sb : Lb.Pairwise (Le lt)) (ha : 0 < La.length) (hb : 0 < Lb.length)
    (hf : ∀ y ∈ La, Le lt Lb[0] y) (hl : ∀ x ∈ Lb, Le lt x La[La.length - 1]) (h : ∀ res st', Gs st st' -> Told lt it La Lb res -> Q res st') : wpS (model prog w) A E s (mergeHi' (La.map (kas_item it)).toArray (Lb.map (kas_item it)).toArray) Q st := by
  refine wpS_bind ?_
  refine wpS_lift (wpAny_rule ⟨rfl, ?_⟩)
  dsimp only
  have sz : ∀ L : List Nat, (L.map (kas_item it)).toArray.size = L.length := fun L => by simp
  simp only [sz]
  refine wpS_bind (el_of (show La.length - 1 < La.length by omega) ?_)
  have hf1 : ∀ x ∈ Lb.take 1, ∀ y ∈ La, Le lt x y := fun x hx y hy => by
    rw [show Lb.take 1 = [Lb[0]] by have := take_one (L := Lb) hb; simpa using this] at hx
    rw [List.mem_singleton.mp hx]
    exact hf y hy
  have at0 : Ah lt it La Lb #[kas_item it La[La.length - 1]] (La.length - 1) Lb.length := by
    have m0 : MH lt La Lb [] La.length Lb.length := ⟨by simp, .nil, fun x _ y hy => nomatch hy⟩
    exact Ah.a1 (it := it) (out := #[]) ⟨[], rfl, m0⟩ sa ha (Nat.le_refl _) fun x hx => hl x (List.mem_of_mem_take hx)
  by_cases e1 : La.length - 1 = 0
  · refine wp_yes (by simp [e1]) ?_
    exact wpS_pure (h _ _ (Gs.refl _) (Told.hi at0 sa sb (.inl e1)))
  refine wp_no (by simpa using e1) ?_
  by_cases e2 : Lb.length = 1
  · refine wp_yes (by simp [e2]) ?_
    exact wpS_pure (h _ _ (Gs.refl _) (Told.first at0 sa sb (by rw [e2]; exact hf1)))
  refine wp_no (by simpa using e2) ?_
  refine wpS_bind (wpS_get ?_)
  refine wpS_bind (wpS_mono (wpS_forRange
    (I := fun x r st' => Gs st st' /\ ∃ na nb out mg, r = (none, na, nb, out, mg) /\ Ah lt it La Lb out na nb /\ 0 < na /\ na <= La.length /\ 1 < nb /\ nb <= Lb.length /\ na + nb + x + 1 <= La.length + Lb.length)
    (Q := fun r st' => Gs st st' /\ ∃ res z, r = (some res, z) /\ Told lt it La Lb res) ?_ ?_ ⟨Gs.refl _, _, _, _, _, rfl, at0, by omega, by omega, by omega, by omega, by omega⟩) ?_)
  rotate_left
  · rintro r st' ⟨_, na, nb, out, mg, rfl, a1, a2, a3, a4, a5, a6⟩
    exfalso
    omega
  · rintro r st' ⟨g, res, z, rfl, t⟩
    exact wpS_pure (h _ _ g t)
  rintro x r st1 _ hx ⟨g1, na, nb, out, mg, rfl, a1, a2, a3, a4, a5, a6⟩
  dsimp only
  refine wpS_bind (wpS_mono (wpS_forRange
    (I := fun y r st' => st' = st1 /\ ∃ na' nb' out' ac bc, r = (none, na', nb', out', ac, bc) /\ Ah lt it La Lb out' na' nb' /\ 0 < na' /\ na' <= La.length /\ 1 < nb' /\ nb' <= Lb.length /\ na' + nb' + y <= na + nb)
    (Q := fun r st' => st' = st1 /\ ((∃ res z, r = (some res, z) /\ Told lt it La Lb res) \/ ∃ na' nb' out' ac bc, r = (none, na', nb', out', ac, bc) /\ Ah lt it La Lb out' na' nb' /\ 0 < na' /\ na' <= La.length /\ 1 < nb' /\ nb' <= Lb.length /\ na' + nb' + 1 <= na + nb)) ?_ ?_ ⟨rfl, _, _, _, _, _, rfl, a1, a2, a3, a4, a5, by omega⟩) ?_)
  · rintro y r st' _ hy ⟨rfl, na', nb', out, ac, bc, rfl, b1, b2, b3, b4, b5, b6⟩
    dsimp only
    refine wpS_bind (el_of (show nb' - 1 < Lb.length by omega) (wpS_bind (el_of (show na' - 1 < La.length by omega) (wpS_bind (lt_of c (g1.1.trans hk) (bN _ (List.getElem_mem _)) (aN _ (List.getElem_mem _)) ?_)))))
    cases w1 : lt Lb[nb' - 1] La[na' - 1] with
    | true =>
      dsimp only
      refine wp_yes rfl ?_
      refine wpS_bind (el_of (show na' - 1 < La.length by omega) ?_)
      have n1 := Ah.a1 b1 sa b2 b3 fun z hz => Le.tr o (last_ge o sb (by omega) b5 z hz) (o.as _ _ w1)
      by_cases f1 : na' - 1 = 0
      · refine wp_yes (by simp [f1]) ?_
        exact wpS_pure ⟨rfl, .inl ⟨_, _, rfl, Told.hi n1 sa sb (.inl f1)⟩⟩
      · refine wp_no (by simpa using f1) (wp_ite (fun _ => ?_) (fun _ => ?_))
        · exact wpS_pure ⟨rfl, .inr ⟨_, _, _, _, _, rfl, n1, by omega, by omega, b4, b5, by omega⟩⟩
        · exact wpS_pure ⟨rfl, _, _, _, _, _, rfl, n1, by omega, by omega, b4, b5, by omega⟩
    | false =>
      dsimp only
      refine wp_no (by decide) ?_
      refine wpS_bind (el_of (show nb' - 1 < Lb.length by omega) ?_)
      have n1 := Ah.b1 b1 sb (by omega) b5 fun z hz => Le.tr o (last_ge o sa b2 b3 z hz) w1
      by_cases f1 : nb' - 1 = 1
      · refine wp_yes (by simp [f1]) ?_
        exact wpS_pure ⟨rfl, .inl ⟨_, _, rfl, Told.first n1 sa sb (by rw [f1]; exact hf1)⟩⟩
      · refine wp_no (by simpa using f1) (wp_ite (fun _ => ?_) (fun _ => ?_))
        · exact wpS_pure ⟨rfl, .inr ⟨_, _, _, _, _, rfl, n1, b2, b3, by omega, by omega, by omega⟩⟩
        · exact wpS_pure ⟨rfl, _, _, _, _, _, rfl, n1, b2, b3, by omega, by omega, by omega⟩
  · rintro r st' ⟨_, na', nb', out, ac, bc, rfl, b1, b2, b3, b4, b5, b6⟩
    exfalso
    omega
  rintro r st' ⟨rfl, z⟩
  rcases z with ⟨res, z, rfl, t⟩ | ⟨na2, nb2, out2, ac, bc, rfl, b1, b2, b3, b4, b5, b6⟩
  · dsimp only
    exact wpS_pure ⟨g1, _, _, rfl, t⟩
  dsimp only
  refine wpS_bind (wpS_lift (wpAny_rule ⟨rfl, ?_⟩))
  refine wpS_bind (wpS_mono (wpS_forRange
    (I := fun y r st' => Gs st st' /\ ∃ na' nb' out' mg ac bc, r = (none, na', nb', out', mg, ac, bc) /\ Ah lt it La Lb out' na' nb' /\ 0 < na' /\ na' <= La.length /\ 1 < nb' /\ nb' <= Lb.length /\ na' + nb' + y + 1 <= na + nb)
    (Q := fun r st' => Gs st st' /\ ((∃ res z, r = (some res, z) /\ Told lt it La Lb res) \/ ∃ na' nb' out' mg ac bc, r = (none, na', nb', out', mg, ac, bc) /\ Ah lt it La Lb out' na' nb' /\ 0 < na' /\ na' <= La.length /\ 1 < nb' /\ nb' <= Lb.length /\ na' + nb' + 1 <= na + nb)) ?_ ?_ ⟨g1, _, _, _, _, _, _, rfl, b1, b2, b3, b4, b5, by omega⟩) ?_)
  rotate_left
  · rintro r st' ⟨_, na', nb', out, mg, ac, bc, rfl, b1, b2, b3, b4, b5, b6⟩
    exfalso
    omega
  · rintro r st' ⟨g2, z⟩
    rcases z with ⟨res, z, rfl, t⟩ | ⟨na3, nb3, out3, mg3, ac3, bc3, rfl, d1, d2, d3, d4, d5, d6⟩
    · dsimp only
      exact wpS_pure ⟨g2, _, _, rfl, t⟩
    · dsimp only
      refine wpS_bind (wpS_modify (wpS_pure ⟨⟨g2.1, g2.2.1, g2.2.2.1, g2.2.2.2⟩, _, _, _, _, rfl, d1, d2, d3, d4, d5, by omega⟩))
  clear b1 b2 b3 b4 b5 b6 a1
  rintro y r st2 _ hy ⟨g2, na', nb', out, mg, ac, bc, rfl, b1, b2, b3, b4, b5, b6⟩
  dsimp only
  refine wp_ite (fun _ => ?_) (fun _ => ?_)
  all_goals
    refine wpS_bind (wpS_modify ?_)
    refine wpS_bind (el_of (show nb' - 1 < Lb.length by omega) ?_)
    refine wpS_bind (gallopL_ok c o (by exact g2.1.trans hk) (bN _ (List.getElem_mem _)) aN (by omega) (by omega) sa fun k k1 k2 k3 => ?_)
    dsimp only
    simp only [Nat.zero_add] at k2 k3
    have A1 := b1.an sa k k1 fun x hx y hy => by
      rw [List.drop_take] at hy
      obtain ⟨j, j1, j2, rfl⟩ := mem_slice hy
      have := k3 (k + j) (by omega) (by omega)
      unfold Bey at this
      rw [if_neg (by decide)] at this
      exact Le.tr o (last_ge o sb (by omega) b5 x hx) (o.as _ _ (by simpa using this))
    have R1 : ∀ x ∈ La.take k, Le lt x Lb[nb' - 1] := fun x hx => by
      obtain ⟨j, j1, j2, rfl⟩ := mem_slice (b := 0) (by simpa using hx)
      have := k2 j j1
      unfold Bey at this
      rw [if_neg (by decide)] at this
      rw [Nat.zero_add]
      simpa using this
    by_cases kp : na' - k > 0
    case' pos =>
      refine wp_yes kp ?_
      by_cases f2 : k = 0
      · refine wp_yes (by simp [f2]) ?_
        exact wpS_pure ⟨⟨g2.1, g2.2.1, g2.2.2.1, g2.2.2.2⟩, .inl ⟨_, _, rfl, Told.hi A1 sa sb (.inl f2)⟩⟩
      refine wp_no (by simpa using f2) ?_
      have i3 : 0 < k := by omega
      have i4 : k <= na' := k1
      generalize out ++ ((La.map (kas_item it)).toArray.extract k na').reverse = o2 at A1 ⊢
      generalize na' - k = ck
      clear k2 k3 kp f2
      generalize k = i2 at A1 R1 i3 i4 ⊢
    case' neg =>
      refine wp_no kp ?_
      have k0 : k = na' := by omega
      rw [k0] at R1
      have i3 : 0 < na' := b2
      have i4 : na' <= na' := Nat.le_refl _
      clear A1
      have A1 := b1
      rw [k0] at *
      clear k1 k2 k3 k0
      generalize out = o2 at A1 ⊢
      generalize na' - na' = ck
      obtain ⟨i2, ei2⟩ : ∃ i2, i2 = na' := ⟨_, rfl⟩
      rw [<- ei2] at A1 R1 i3 ⊢
      have i4 : i2 <= na' := by omega
    all_goals
      refine wpS_bind (el_of (show nb' - 1 < Lb.length by omega) ?_)
      have A2 := Ah.b1 A1 sb (by omega) b5 R1
      by_cases f3 : nb' - 1 = 1
      · refine wp_yes (by simp [f3]) ?_
        exact wpS_pure ⟨⟨g2.1, g2.2.1, g2.2.2.1, g2.2.2.2⟩, .inl ⟨_, _, rfl, Told.first A2 sa sb (by rw [f3]; exact hf1)⟩⟩
      refine wp_no (by simpa using f3) ?_
      refine wpS_bind (el_of (show i2 - 1 < La.length by omega) ?_)
      refine wpS_bind (gallopL_ok c o (by exact g2.1.trans hk) (aN _ (List.getElem_mem _)) bN (by omega) (by omega) sb fun m m1 m2 m3 => ?_)
      dsimp only
      simp only [Nat.zero_add] at m2 m3
      have A3 := A2.bn sb m m1 fun x hx y hy => by
        rw [List.drop_take] at hy
        obtain ⟨j, j1, j2, rfl⟩ := mem_slice hy
        have := m3 (m + j) (by omega) (by omega)
        unfold Bey at this
        rw [if_pos rfl] at this
        exact Le.tr o (last_ge o sa i3 (by omega) x hx) this
      have R3 : ∀ x ∈ Lb.take m, Le lt x La[i2 - 1] := fun x hx => by
        obtain ⟨j, j1, j2, rfl⟩ := mem_slice (b := 0) (by simpa using hx)
        have := m2 j j1
        unfold Bey at this
        rw [if_pos rfl] at this
        rw [Nat.zero_add]
        exact o.as _ _ this
      by_cases mp : nb' - 1 - m > 0
      case' pos =>
        refine wp_yes mp ?_
        by_cases f4 : m = 1
        · refine wp_yes (by simp [f4]) ?_
          exact wpS_pure ⟨⟨g2.1, g2.2.1, g2.2.2.1, g2.2.2.2⟩, .inl ⟨_, _, rfl, Told.first A3 sa sb (by rw [f4]; exact hf1)⟩⟩
        refine wp_no (by simpa using f4) ?_
        by_cases f5 : m = 0
        · refine wp_yes (by simp [f5]) ?_
          exact wpS_pure ⟨⟨g2.1, g2.2.1, g2.2.2.1, g2.2.2.2⟩, .inl ⟨_, _, rfl, Told.hi A3 sa sb (.inr f5)⟩⟩
        refine wp_no (by simpa using f5) ?_
        have j3 : 1 < m := by omega
        have j4 : m + 1 <= nb' := by omega
        generalize o2.push (kas_item it Lb[nb' - 1]) ++ ((Lb.map (kas_item it)).toArray.extract m (nb' - 1)).reverse = o3 at A3 ⊢
        generalize nb' - 1 - m = cm
        clear m2 m3 mp f4 f5
        generalize m = j2 at A3 R3 j3 j4 ⊢
      case' neg =>
        refine wp_no mp ?_
        have m0 : m = nb' - 1 := by omega
        rw [m0] at R3
        clear A3
        have A3 := A2
        generalize nb' - 1 - m = cm
        generalize o2.push (kas_item it Lb[nb' - 1]) = o3 at A3 ⊢
        obtain ⟨j2, ej2⟩ : ∃ j2, j2 = nb' - 1 := ⟨_, rfl⟩
        rw [<- ej2] at A3 R3 ⊢
        have j3 : 1 < j2 := by omega
        have j4 : j2 + 1 <= nb' := by omega
      all_goals
        refine wpS_bind (el_of (show i2 - 1 < La.length by omega) ?_)
        have A4 := Ah.a1 A3 sa i3 (by omega) R3
        by_cases f6 : i2 - 1 = 0
        · refine wp_yes (by simp [f6]) ?_
          exact wpS_pure ⟨⟨g2.1, g2.2.1, g2.2.2.1, g2.2.2.2⟩, .inl ⟨_, _, rfl, Told.hi A4 sa sb (.inl f6)⟩⟩
        refine wp_no (by simpa using f6) (wp_ite (fun _ => ?_) (fun _ => ?_))
        · exact wpS_pure ⟨⟨g2.1, g2.2.1, g2.2.2.1, g2.2.2.2⟩, .inr ⟨_, _, _, _, _, _, rfl, A4, by omega, by omega, j3, by omega, by omega⟩⟩
        · exact wpS_pure ⟨⟨g2.1, g2.2.1, g2.2.2.1, g2.2.2.2⟩, _, _, _, _, _, _, rfl, A4, by omega, by omega, j3, by omega, by omega⟩
end
end L2
namespace L2
open PySem PySem.W PyProof.Rows
section
variable {prog : Program} {w : World} {A : Around} {E : Value -> Shared -> Prop} {s : Shared} {κ : SortKind} {it : Array Keyed} {lt : Nat -> Nat -> Bool} {N : Nat}
theorem wpS_put {x st : SortSt} {Q : PUnit -> SortSt -> Prop} (h : Q ⟨⟩ x) : wpS (model prog w) A E s (set x : StateT SortSt Sem PUnit) Q st := by
  unfold wpS
  rw [StateT.run_set]
  exact wpAny_pure ⟨rfl, h⟩
theorem gallopS_ok {left : Bool} {k : Nat} {L X : List Nat} {base hint : Nat} {st : SortSt} {Q : Option Nat -> SortSt -> Prop} (c : Cmp prog w A κ it lt N s) (o : Ord lt) (hk : kindOf st = κ) (kN : k < N) (qN : ∀ x ∈ L, x < N) (hb : base + X.length <= L.length) (hs : ∀ j, j < X.length -> L.getD (base + j) 0 = X.getD j 0) (hh : hint < X.length) (sX : X.Pairwise (Le lt))
    (h : ∀ r, r <= X.length -> (∀ x ∈ X.take r, Bey lt left k x = true) -> (∀ x ∈ X.drop r, Bey lt left k x = false) -> Q (some r) st) :
    wpS (model prog w) A E s (gallop' left (kas_item it k) (L.map (kas_item it)).toArray base X.length hint) Q st := by
  have e : (L.map (kas_item it)).toArray = L.toArray.map (kas_item it) := by simp
  have g : ∀ i, L.toArray.getD i 0 = L.getD i 0 := fun i => by rw [Array.getD_eq_getD_getElem?, List.getD_eq_getElem?_getD]; simp
  rw [e]
  refine gallop_ok c hk kN (fun i hi => ?_) (by simpa using hb) hh (fun i j hij hj hB => ?_) (fun r r1 r2 r3 => h r r1 (fun x hx => ?_) (fun x hx => ?_))
  · rw [g]
    have hi' : i < L.length := by simpa using hi
    rw [List.getD_eq_getElem?_getD, List.getElem?_eq_getElem hi']
    exact qN _ (List.getElem_mem hi')
  · rw [g, hs _ (by omega)] at hB ⊢
    have lij : Le lt (X.getD i 0) (X.getD j 0) := by
      have h1 : i < X.length := by omega
      rw [List.getD_eq_getElem?_getD, List.getElem?_eq_getElem h1, List.getD_eq_getElem?_getD, List.getElem?_eq_getElem hj]
      by_cases e : i = j
      · subst e; exact o.rf _
      · exact List.pairwise_iff_getElem.mp sX _ _ h1 hj (by omega)
    unfold Bey at hB ⊢
    cases left with
    | true =>
      rw [if_pos rfl] at hB ⊢
      cases z : lt (X.getD i 0) k with
      | true => rfl
      | false => rw [Le.tr o (x := k) z lij] at hB; cases hB
    | false =>
      rw [if_neg (by decide)] at hB ⊢
      have hB' : Le lt (X.getD j 0) k := by simpa using hB
      have := Le.tr o lij hB'
      rw [this]
      rfl
  · obtain ⟨i, i1, i2, rfl⟩ := mem_slice (b := 0) (by simpa using hx)
    rw [Nat.zero_add] at i2 ⊢
    have := r2 i i1
    rw [g, hs _ i2] at this
    exact this
  · obtain ⟨i, i1, rfl⟩ := mem_dropN hx
    have := r3 (r + i) (by omega) i1
    rw [g, hs _ i1] at this
    exact this
theorem mid_of {α β : Type} (f : α -> β) (P B C : List α) (a b : Nat) (ha : a = P.length) (hb : b = P.length + B.length) : ((P ++ B ++ C).map f).toArray.extract a b = (B.map f).toArray := by
  subst ha hb
  apply Array.toList_inj.mp
  simp
theorem set_go {α : Type} (b : Nat) : ∀ (M P X Z : List α) (k : Nat), P.length = b + k -> X.length = M.length -> ((M.zipIdx k).foldl (fun (a : Array α) (p : α × Nat) => a.setIfInBounds (b + p.2) p.1) (P ++ X ++ Z).toArray) = (P ++ M ++ Z).toArray
  | [], P, X, Z, k, _, h => by
    have : X = [] := List.eq_nil_of_length_eq_zero (by simpa using h)
    subst this
    rfl
  | m :: M, P, X, Z, k, hp, h => by
    cases X with
    | nil => simp at h
    | cons x X =>
      rw [List.zipIdx_cons, List.foldl_cons]
      have e : (P ++ x :: X ++ Z).toArray.setIfInBounds (b + k) m = ((P ++ [m]) ++ X ++ Z).toArray := by
        apply Array.toList_inj.mp
        rw [Array.toList_setIfInBounds]
        show (P ++ x :: X ++ Z).set (b + k) m = P ++ [m] ++ X ++ Z
        rw [<- hp]
        simp
      show (M.zipIdx (k + 1)).foldl _ ((P ++ x :: X ++ Z).toArray.setIfInBounds (b + k) m) = _
      rw [e, set_go b M (P ++ [m]) X Z (k + 1) (by rw [List.length_append]; show P.length + 1 = _; omega) (by simpa using h)]
      simp
structure StAt (κ : SortKind) (it : Array Keyed) (st : SortSt) (L : List Nat) (pd : Array (Nat × Nat × Nat)) : Prop where
  k : kindOf st = κ
  a : arrOf st = (L.map (kas_item it)).toArray
  p : pendingOf st = pd
  f : failedOf st = none
theorem mergeAt_ok {i : Nat} {P X Y Z : List Nat} {pd : Array (Nat × Nat × Nat)} {pw pw2 : Nat} {st : SortSt} {Q : Bool -> SortSt -> Prop} (c : Cmp prog w A κ it lt N s) (o : Ord lt) (h0 : StAt κ it st (P ++ X ++ Y ++ Z) pd) (lN : ∀ x ∈ P ++ X ++ Y ++ Z, x < N)
    (p1 : pd[i]? = some (P.length, X.length, pw)) (p2 : pd[i + 1]? = some (P.length + X.length, Y.length, pw2)) (hX : 0 < X.length) (hY : 0 < Y.length) (sX : X.Pairwise (Le lt)) (sY : Y.Pairwise (Le lt))
    (h : ∀ st' W, StAt κ it st' (P ++ W ++ Z) ((pd.setIfInBounds i (P.length, X.length + Y.length, pw)).eraseIdxIfInBounds (i + 1)) -> W.Perm (X ++ Y) -> W.Pairwise (Le lt) -> Q true st') : wpS (model prog w) A E s (mergeAt' i) Q st := by
  rcases st with ⟨kd, ar, pn, gl, fl⟩
  have ek : kd = κ := h0.k
  have ea : ar = ((P ++ X ++ Y ++ Z).map (kas_item it)).toArray := h0.a
  have ep : pn = pd := h0.p
  have ef : fl = none := h0.f
  subst ek ea ep ef
  refine wpS_bind (wpS_get ?_)
  have hL : ∀ j, j < Y.length -> (P ++ X ++ Y ++ Z).getD (P.length + X.length + j) 0 = Y.getD j 0 := fun j hj => by
    rw [List.getD_eq_getElem?_getD, List.getD_eq_getElem?_getD, List.append_assoc, List.append_assoc, List.getElem?_append_right (by omega), List.getElem?_append_right (by omega), List.getElem?_append_left (by omega)]
    congr 2
    omega
  have hL2 : ∀ j, j < X.length -> (P ++ X ++ Y ++ Z).getD (P.length + j) 0 = X.getD j 0 := fun j hj => by
    rw [List.getD_eq_getElem?_getD, List.getD_eq_getElem?_getD, List.append_assoc, List.append_assoc, List.getElem?_append_right (by omega), List.getElem?_append_left (by omega)]
    congr 2
    omega
  have ll : (P ++ X ++ Y ++ Z).length = P.length + X.length + Y.length + Z.length := by simp; omega
  have gE : ∀ (L : List Nat) (i : Nat) (h : i < L.length), L[i] = L.getD i 0 := fun L i h => by rw [List.getD_eq_getElem?_getD, List.getElem?_eq_getElem h]; rfl
  have xN : ∀ x ∈ X, x < N := fun x hx => lN x (by simp [hx])
  have yN : ∀ x ∈ Y, x < N := fun x hx => lN x (by simp [hx])
  dsimp only
  rw [p1, p2]
  dsimp only
  refine wpS_bind (wpS_put ?_)
  refine wpS_bind (el_of (show P.length + X.length < (P ++ X ++ Y ++ Z).length by omega) ?_)
  have y0 : (P ++ X ++ Y ++ Z)[P.length + X.length]'(by omega) = Y[0] := by
    rw [gE, gE, <- hL 0 hY, Nat.add_zero]
  rw [y0]
  refine wpS_bind (gallopS_ok c o (by exact h0.k) (yN _ (List.getElem_mem _)) lN (by omega) hL2 hX sX fun k k1 k2 k3 => ?_)
  dsimp only
  have X1 : ∀ x ∈ X.take k, Le lt x Y[0] := fun x hx => by
    have := k2 x hx
    unfold Bey at this
    rw [if_neg (by decide)] at this
    simpa using this
  have X2 : ∀ x ∈ X.drop k, Le lt Y[0] x := fun x hx => by
    have := k3 x hx
    unfold Bey at this
    rw [if_neg (by decide)] at this
    exact o.as _ _ (by simpa using this)
  have Y0 : ∀ y ∈ Y, Le lt Y[0] y := fun y hy => head_le o sY hY y (by simpa using hy)
  by_cases f1 : X.length - k = 0
  · refine wp_yes (by simp [f1]) (wpS_pure (h _ (X ++ Y) ⟨h0.k, ?_, ?_, h0.f⟩ (List.Perm.refl _) ?_))
    · rw [<- List.append_assoc]
    · rfl
    · refine List.pairwise_append.mpr ⟨sX, sY, fun x hx y hy => Le.tr o (X1 x ?_) (Y0 y hy)⟩
      rw [List.take_of_length_le (by omega)]
      exact hx
  refine wp_no (by simpa using f1) ?_
  have kl : k < X.length := by omega
  refine wpS_bind (el_of (show P.length + k + (X.length - k) - 1 < (P ++ X ++ Y ++ Z).length by omega) ?_)
  have xl : (P ++ X ++ Y ++ Z)[P.length + k + (X.length - k) - 1]'(by omega) = X[X.length - 1] := by
    rw [gE, gE, <- hL2 (X.length - 1) (by omega)]
    congr 1
    omega
  rw [xl]
  refine wpS_bind (gallopS_ok c o (by exact h0.k) (xN _ (List.getElem_mem _)) lN (by omega) hL (show Y.length - 1 < Y.length by omega) sY fun m m1 m2 m3 => ?_)
  dsimp only
  have Y1 : ∀ y ∈ Y.take m, Le lt y X[X.length - 1] := fun y hy => by
    have := m2 y hy
    unfold Bey at this
    rw [if_pos rfl] at this
    exact o.as _ _ this
  have Y2 : ∀ y ∈ Y.drop m, Le lt X[X.length - 1] y := fun y hy => by
    have := m3 y hy
    unfold Bey at this
    rw [if_pos rfl] at this
    exact this
  have XL : ∀ x ∈ X, Le lt x X[X.length - 1] := fun x hx => last_ge o sX hX (Nat.le_refl _) x (by simpa using hx)
  by_cases f2 : m = 0
  · refine wp_yes (by simp [f2]) (wpS_pure (h _ (X ++ Y) ⟨h0.k, ?_, ?_, h0.f⟩ (List.Perm.refl _) ?_))
    · rw [<- List.append_assoc]
    · rfl
    · refine List.pairwise_append.mpr ⟨sX, sY, fun x hx y hy => Le.tr o (XL x hx) (Y2 y ?_)⟩
      rw [f2]
      exact hy
  refine wp_no (by simpa using f2) ?_
  have xe : ((P ++ X ++ Y ++ Z).map (kas_item it)).toArray.extract (P.length + k) (P.length + X.length) = ((X.drop k).map (kas_item it)).toArray := by
    have e : P ++ X ++ Y ++ Z = (P ++ X.take k) ++ X.drop k ++ (Y ++ Z) := by
      simp only [List.append_assoc]
      rw [<- List.append_assoc (X.take k), List.take_append_drop]
    rw [e]
    exact mid_of _ _ _ _ _ _ (by rw [List.length_append, List.length_take]; omega) (by rw [List.length_append, List.length_take, List.length_drop]; omega)
  have ye : ((P ++ X ++ Y ++ Z).map (kas_item it)).toArray.extract (P.length + X.length) (P.length + X.length + m) = ((Y.take m).map (kas_item it)).toArray := by
    have e : P ++ X ++ Y ++ Z = (P ++ X) ++ Y.take m ++ (Y.drop m ++ Z) := by
      simp only [List.append_assoc]
      rw [<- List.append_assoc (Y.take m), List.take_append_drop]
    rw [e]
    exact mid_of _ _ _ _ _ _ (by rw [List.length_append]) (by rw [List.length_append, List.length_take]; omega)
  rw [xe, ye]
  have dl : (X.drop k).length = X.length - k := List.length_drop
  have tl : (Y.take m).length = m := by rw [List.length_take]; omega
  have t0 : (Y.take m)[0]'(by omega) = Y[0] := List.getElem_take
  have d9 : (X.drop k)[(X.drop k).length - 1]'(by omega) = X[X.length - 1] := by
    rw [List.getElem_drop]
    congr 1
    omega
  have fin : ∀ (res : Array Keyed) (st' : SortSt), Gs (SortSt.mk' kd ((P ++ X ++ Y ++ Z).map (kas_item it)).toArray ((pn.setIfInBounds i (P.length, X.length + Y.length, pw)).eraseIdxIfInBounds (i + 1)) gl none) st' -> Told lt it (X.drop k) (Y.take m) res ->
      wpS (model prog w) A E s (modify (fun s => SortSt.mk' (kindOf s) (res.toList.zipIdx.foldl (fun (a : Array Keyed) (x : Keyed × Nat) => match x with | (p, j) => a.setIfInBounds (P.length + k + j) p) (arrOf s)) (pendingOf s) (gallopOf s) (failedOf s)) >>= fun _ => get >>= fun s => pure (failedOf s).isNone) Q st' := by
    intro res st' g ⟨M, eM, pM, sM⟩
    rcases st' with ⟨kd', ar', pn', gl', fl'⟩
    obtain ⟨g1, g2, g3, g4⟩ := g
    have q1 : kd' = kd := g1
    have q2 : ar' = ((P ++ X ++ Y ++ Z).map (kas_item it)).toArray := g2
    have q3 : pn' = (pn.setIfInBounds i (P.length, X.length + Y.length, pw)).eraseIdxIfInBounds (i + 1) := g3
    have q4 : fl' = none := g4
    subst q1 q2 q3 q4
    refine wpS_bind (wpS_modify (wpS_bind (wpS_get (wpS_pure ?_))))
    refine h _ (X.take k ++ M ++ Y.drop m) ⟨rfl, ?_, rfl, rfl⟩ ?_ ?_
    · show res.toList.zipIdx.foldl _ ((P ++ X ++ Y ++ Z).map (kas_item it)).toArray = _
      have e : (P ++ X ++ Y ++ Z).map (kas_item it) = (P ++ X.take k).map (kas_item it) ++ (X.drop k ++ Y.take m).map (kas_item it) ++ (Y.drop m ++ Z).map (kas_item it) := by
        rw [<- List.map_append, <- List.map_append]
        congr 1
        simp only [List.append_assoc]
        rw [<- List.append_assoc (X.take k), List.take_append_drop, <- List.append_assoc (Y.take m), List.take_append_drop]
      rw [eM, e]
      have := set_go (P.length + k) (M.map (kas_item it)) ((P ++ X.take k).map (kas_item it)) ((X.drop k ++ Y.take m).map (kas_item it)) ((Y.drop m ++ Z).map (kas_item it)) 0 (by rw [List.length_map, List.length_append, List.length_take]; omega) (by rw [List.length_map, List.length_map, pM.length_eq])
      refine Eq.trans this ?_
      congr 1
      rw [<- List.map_append, <- List.map_append]
      congr 1
      simp only [List.append_assoc]
    · have : (X.take k ++ M ++ Y.drop m).Perm (X.take k ++ (X.drop k ++ Y.take m) ++ Y.drop m) := List.Perm.append_right _ (List.Perm.append_left _ pM)
      refine this.trans ?_
      rw [<- List.append_assoc, List.take_append_drop, List.append_assoc, List.take_append_drop]
    · have hM : ∀ z ∈ M, z ∈ X.drop k \/ z ∈ Y.take m := fun z hz => List.mem_append.mp (pM.mem_iff.mp hz)
      have sY' : (Y.take m ++ Y.drop m).Pairwise (Le lt) := by rw [List.take_append_drop]; exact sY
      have sX' : (X.take k ++ X.drop k).Pairwise (Le lt) := by rw [List.take_append_drop]; exact sX
      refine List.pairwise_append.mpr ⟨List.pairwise_append.mpr ⟨sX.sublist (List.take_sublist _ _), sM, fun x hx z hz => ?_⟩, sY.sublist (List.drop_sublist _ _), fun z hz y hy => ?_⟩
      · rcases hM z hz with hz | hz
        · exact (List.pairwise_append.mp sX').2.2 x hx z hz
        · exact Le.tr o (X1 x hx) (Y0 z (List.mem_of_mem_take hz))
      · rcases List.mem_append.mp hz with hz | hz
        · exact Le.tr o (XL z (List.mem_of_mem_take hz)) (Y2 y hy)
        · rcases hM z hz with hz | hz
          · exact Le.tr o (XL z (List.mem_of_mem_drop hz)) (Y2 y hy)
          · exact (List.pairwise_append.mp sY').2.2 z hz y hy
  refine wp_ite (fun _ => ?_) (fun _ => ?_)
  · refine wpS_bind (mergeLo_ok c o (by exact h0.k) (fun x hx => xN x (List.mem_of_mem_drop hx)) (fun x hx => yN x (List.mem_of_mem_take hx)) (sX.sublist (List.drop_sublist _ _)) (sY.sublist (List.take_sublist _ _)) (by omega) (by omega) ?_ ?_ fun res st' g tt => ?_)
    · rw [t0]; exact X2
    · intro x hx y hy
      have e : (X.drop k).drop ((X.drop k).length - 1) = [X[X.length - 1]] := by
        rw [List.drop_eq_getElem_cons (show (X.drop k).length - 1 < (X.drop k).length by omega), d9]
        congr 1
        exact List.drop_eq_nil_of_le (by omega)
      rw [e] at hy
      rw [List.mem_singleton.mp hy]
      exact Y1 x hx
    · exact fin res st' g tt
  · refine wpS_bind (mergeHi_ok c o (by exact h0.k) (fun x hx => xN x (List.mem_of_mem_drop hx)) (fun x hx => yN x (List.mem_of_mem_take hx)) (sX.sublist (List.drop_sublist _ _)) (sY.sublist (List.take_sublist _ _)) (by omega) (by omega) ?_ ?_ fun res st' g tt => ?_)
    · rw [t0]; exact X2
    · rw [d9]; exact Y1
    · exact fin res st' g tt
end
end L2
namespace L2
open PySem PySem.W PyProof.Rows
section
variable {prog : Program} {w : World} {A : Around} {E : Value -> Shared -> Prop} {s : Shared} {κ : SortKind} {it : Array Keyed} {lt : Nat -> Nat -> Bool} {N : Nat}
structure StP (κ : SortKind) (it : Array Keyed) (st : SortSt) (p : Array Nat) (pd : Array (Nat × Nat × Nat)) : Prop where
  k : kindOf st = κ
  a : arrOf st = p.map (kas_item it)
  p : pendingOf st = pd
  f : failedOf st = none
def UpF (lt : Nat -> Nat -> Bool) (p : Array Nat) (lo n : Nat) : Prop := ∀ i j, lo <= i -> i <= j -> j < lo + n -> lt (p.getD j 0) (p.getD i 0) = false
theorem ltAt_ok {i j : Nat} {p : Array Nat} {pd : Array (Nat × Nat × Nat)} {st : SortSt} {Q : Option Bool -> SortSt -> Prop} (c : Cmp prog w A κ it lt N s) (B : PB N p) (S : StP κ it st p pd) (hi : i < N) (hj : j < N) (h : Q (some (lt (p.getD i 0) (p.getD j 0))) st) : wpS (model prog w) A E s (ltAt' i j) Q st := by
  rw [ltAt'_eq]
  refine wpS_bind (wpS_get ?_)
  show wpS _ _ _ _ (elem' (arrOf st) i >>= fun x => elem' (arrOf st) j >>= fun y => lt' x y) Q st
  rw [S.a]
  refine wpS_bind (elem_of (by rw [B.size]; exact hi) (wpS_bind (elem_of (by rw [B.size]; exact hj) ?_)))
  exact lt_of c S.k (B.lt hi) (B.lt hj) h
theorem move_ok {k l : Nat} {p : Array Nat} {pd : Array (Nat × Nat × Nat)} {st : SortSt} {Q : Unit -> SortSt -> Prop} (S : StP κ it st p pd) (h : ∀ st', StP κ it st' (bubble p k (k - l)) pd -> Q () st') : wpS (model prog w) A E s (moveDown' k l) Q st := by
  rw [moveDown'_eq]
  refine wpS_modify (h _ ⟨S.k, ?_, S.p, S.f⟩)
  show bubble (arrOf st) k (k - l) = _
  rw [S.a]
  exact kas_swaps_map (kas_item it) (fun i => k - i) (fun i => k - i - 1) _ p
theorem rev_ok {i j : Nat} {p : Array Nat} {pd : Array (Nat × Nat × Nat)} {st : SortSt} {Q : Unit -> SortSt -> Prop} (S : StP κ it st p pd) (h : ∀ st', StP κ it st' (kas_rev p i j) pd -> Q () st') : wpS (model prog w) A E s (reverseSlice' i j) Q st := by
  rw [reverseSlice'_eq]
  refine wpS_modify (h _ ⟨S.k, ?_, S.p, S.f⟩)
  show mirror (arrOf st) i j ((j - i) / 2) = _
  rw [S.a]
  exact kas_swaps_map (kas_item it) (fun k => i + k) (fun k => j - 1 - k) _ p
theorem ins_up (o : Ord lt) {p : Array Nat} {lo k l : Nat} (B : PB N p) (hk : lo + k < N) (hl : l <= k) (h : UpF lt p lo k) (h1 : ∀ i, i < l -> Le lt (p.getD (lo + i) 0) (p.getD (lo + k) 0)) (h2 : ∀ i, l <= i -> i < k -> Le lt (p.getD (lo + k) 0) (p.getD (lo + i) 0)) :
    UpF lt (bubble p (lo + k) (lo + k - (lo + l))) lo (k + 1) := by
  intro i j hi hij hj
  rw [bub_at B hk (by omega), bub_at B hk (by omega)]
  by_cases a : j = lo + l
  · rw [if_pos a]
    by_cases b : i = lo + l
    · rw [if_pos b]; exact o.rf _
    · rw [if_neg b, if_neg (by omega)]
      have := h1 (i - lo) (by omega)
      rw [show lo + (i - lo) = i by omega] at this
      exact this
  · rw [if_neg a]
    by_cases b : lo + l < j /\ j <= lo + k
    · rw [if_pos b]
      by_cases d : i = lo + l
      · rw [if_pos d]
        have := h2 (j - 1 - lo) (by omega) (by omega)
        rw [show lo + (j - 1 - lo) = j - 1 by omega] at this
        exact this
      · rw [if_neg d]
        by_cases e : lo + l < i /\ i <= lo + k
        · rw [if_pos e]; exact h _ _ (by omega) (by omega) (by omega)
        · rw [if_neg e]; exact h _ _ (by omega) (by omega) (by omega)
    · rw [if_neg b]
      rw [if_neg (by omega), if_neg (by omega)]
      exact h _ _ hi hij (by omega)
theorem binary_ok {lo n ok : Nat} {p : Array Nat} {pd : Array (Nat × Nat × Nat)} {st : SortSt} {Q : Bool -> SortSt -> Prop} (c : Cmp prog w A κ it lt N s) (o : Ord lt) (B : PB N p) (S : StP κ it st p pd) (hn : lo + n <= N) (h1 : 1 <= n) (hok : ok <= n) (u : UpF lt p lo ok)
    (h : ∀ st' p', StP κ it st' p' pd -> PB N p' -> UpF lt p' lo n -> (∀ i, i < lo -> p'.getD i 0 = p.getD i 0) -> Q true st') : wpS (model prog w) A E s (binarySort' lo n ok) Q st := by
  refine wpS_bind (wpS_mono (wpS_forRange
    (I := fun k r st' => r = (none, ()) /\ ∃ p', StP κ it st' p' pd /\ PB N p' /\ UpF lt p' lo k /\ (∀ i, i < lo -> p'.getD i 0 = p.getD i 0))
    (Q := fun r st' => r = (none, ()) /\ ∃ p', StP κ it st' p' pd /\ PB N p' /\ UpF lt p' lo n /\ (∀ i, i < lo -> p'.getD i 0 = p.getD i 0)) ?_ ?_ ⟨rfl, p, S, B, ?_, fun _ _ => rfl⟩) ?_)
  · rintro k r st' hk1 hk2 ⟨rfl, p', S', B', u', e'⟩
    refine wpS_bind (wpS_mono (wpS_forRange
      (I := fun x r st'' => st'' = st' /\ ∃ l m, r = (none, l, m) /\ l <= m /\ m <= k /\ m - l + x <= k /\ (∀ i, i < l -> Le lt (p'.getD (lo + i) 0) (p'.getD (lo + k) 0)) /\ (∀ i, m <= i -> i < k -> Le lt (p'.getD (lo + k) 0) (p'.getD (lo + i) 0)))
      (Q := fun r st'' => st'' = st' /\ ∃ l m, r = (none, l, m) /\ l <= k /\ (∀ i, i < l -> Le lt (p'.getD (lo + i) 0) (p'.getD (lo + k) 0)) /\ (∀ i, l <= i -> i < k -> Le lt (p'.getD (lo + k) 0) (p'.getD (lo + i) 0))) ?_ ?_ ⟨rfl, 0, k, rfl, by omega, by omega, by omega, fun i hi => absurd hi (by omega), fun i h1 h2 => absurd h1 (by omega)⟩) ?_)
    · rintro x r st'' _ hx ⟨rfl, l, m, rfl, l1, l2, l3, l4, l5⟩
      dsimp only
      by_cases e : l >= m
      · refine wp_yes e (wpS_pure ⟨rfl, l, m, rfl, by omega, l4, fun i h1 h2 => l5 i (by omega) h2⟩)
      refine wp_no e (wpS_bind (ltAt_ok c B' S' (by omega) (by omega) ?_))
      cases z : lt (p'.getD (lo + k) 0) (p'.getD (lo + (l + m) / 2) 0) with
      | true =>
        dsimp only
        refine wp_yes rfl (wpS_pure ⟨rfl, l, (l + m) / 2, rfl, by omega, by omega, by omega, l4, fun i h1 h2 => Le.tr o (o.as _ _ z) (u' _ _ (by omega) (by omega) (by omega))⟩)
      | false =>
        dsimp only
        refine wp_no (by decide) (wpS_pure ⟨rfl, (l + m) / 2 + 1, m, rfl, by omega, by omega, by omega, fun i hi => Le.tr o (u' _ _ (by omega) (by omega) (by omega)) z, l5⟩)
    · rintro r st'' ⟨rfl, l, m, rfl, l1, l2, l3, l4, l5⟩
      exact ⟨rfl, l, m, rfl, by omega, l4, fun i h1 h2 => l5 i (by omega) h2⟩
    · rintro r st'' ⟨rfl, l, m, rfl, l1, l4, l5⟩
      dsimp only
      refine wpS_bind (move_ok S' fun st3 S3 => wpS_pure ⟨rfl, _, S3, B'.bub _ _, ins_up o B' (by omega) l1 u' l4 l5, fun i hi => ?_⟩)
      rw [bub_at B' (by omega) (by omega), if_neg (by omega), if_neg (by omega)]
      exact e' i hi
  · rintro r st' ⟨rfl, p', S', B', u', e'⟩
    exact ⟨rfl, p', S', B', by rw [show max (max ok 1) n = n by omega] at u'; exact u', e'⟩
  · intro i j hi hij hj
    by_cases e : i = j
    · subst e; exact o.rf _
    · exact u i j hi hij (by omega)
  · rintro r st' ⟨rfl, p', S', B', u', e'⟩
    exact wpS_pure (h st' p' S' B' u' e')
end
end L2
namespace L2
open PySem PySem.W PyProof.Rows
section
variable {prog : Program} {w : World} {A : Around} {E : Value -> Shared -> Prop} {s : Shared} {κ : SortKind} {it : Array Keyed} {lt : Nat -> Nat -> Bool} {N : Nat}
def DownF (lt : Nat -> Nat -> Bool) (p : Array Nat) (lo n : Nat) : Prop := ∀ i j, lo <= i -> i <= j -> j < lo + n -> lt (p.getD i 0) (p.getD j 0) = false
theorem up_moreF (o : Ord lt) {p : Array Nat} {lo n : Nat} (h : UpF lt p lo n) (n1 : 1 <= n) (c : lt (p.getD (lo + n) 0) (p.getD (lo + n - 1) 0) = false) : UpF lt p lo (n + 1) := by
  intro i j hi hij hj
  by_cases e : j = lo + n
  · subst e
    by_cases e2 : i = lo + n
    · subst e2; exact o.rf _
    · exact o.tr _ _ _ (h i (lo + n - 1) hi (by omega) (by omega)) c
  · exact h i j hi hij (by omega)
theorem down_moreF (o : Ord lt) {p : Array Nat} {lo n : Nat} (h : DownF lt p lo n) (n1 : 1 <= n) (c : lt (p.getD (lo + n - 1) 0) (p.getD (lo + n) 0) = false) : DownF lt p lo (n + 1) := by
  intro i j hi hij hj
  by_cases e : j = lo + n
  · subst e
    by_cases e2 : i = lo + n
    · subst e2; exact o.rf _
    · exact o.tr _ _ _ c (h i (lo + n - 1) hi (by omega) (by omega))
  · exact h i j hi hij (by omega)
theorem down_flatF {p : Array Nat} (B : PB N p) {lo n q : Nat} (hn : lo + n <= N) (hq : q + 1 <= n) (h : DownF lt p lo n) (fl : Flat lt p (lo + n - (q + 1)) (lo + n)) : DownF lt (kas_rev p (lo + n - (q + 1)) (lo + n)) lo n := by
  intro i j hi hij hj
  rw [rev_at B hn, rev_at B hn]
  by_cases c1 : lo + n - (q + 1) <= i /\ i < lo + n
  · rw [if_pos c1, if_pos (by omega)]
    exact fl _ _ (by omega) (by omega) (by omega) (by omega)
  · rw [if_neg c1]
    by_cases c2 : lo + n - (q + 1) <= j /\ j < lo + n
    · rw [if_pos c2]
      exact h _ _ hi (by omega) (by omega)
    · rw [if_neg c2]
      exact h _ _ hi hij hj
theorem down_revF {p : Array Nat} (B : PB N p) {lo n : Nat} (hn : lo + n <= N) (h : DownF lt p lo n) : UpF lt (kas_rev p lo (lo + n)) lo n := by
  intro i j hi hij hj
  rw [rev_at B hn, rev_at B hn, if_pos (by omega), if_pos (by omega)]
  exact h _ _ (by omega) (by omega) (by omega)
theorem count_ok {lo nrem : Nat} {p : Array Nat} {pd : Array (Nat × Nat × Nat)} {st : SortSt} {Q : Option Nat -> SortSt -> Prop} (c : Cmp prog w A κ it lt N s) (o : Ord lt) (B : PB N p) (S : StP κ it st p pd) (hn : lo + nrem <= N) (h1 : 1 <= nrem)
    (h : ∀ st' p' n, StP κ it st' p' pd -> PB N p' -> 1 <= n -> n <= nrem -> UpF lt p' lo n -> (∀ i, i < lo -> p'.getD i 0 = p.getD i 0) -> Q (some n) st') : wpS (model prog w) A E s (countRun' lo nrem) Q st := by
  refine wpS_bind (wpS_mono (wpS_forRange
    (I := fun x r st' => st' = st /\ r = (none, x) /\ UpF lt p lo x)
    (Q := fun r st' => st' = st /\ ∃ n, r = (none, n) /\ 1 <= n /\ n <= nrem /\ UpF lt p lo n /\ (n = nrem \/ lt (p.getD (lo + n) 0) (p.getD (lo + n - 1) 0) = true)) ?_ ?_ ⟨rfl, rfl, ?_⟩) ?_)
  · rintro x r st' hx1 hx2 ⟨rfl, rfl, u⟩
    refine wpS_bind (ltAt_ok c B S (by omega) (by omega) ?_)
    cases z : lt (p.getD (lo + x) 0) (p.getD (lo + x - 1) 0) with
    | true =>
      dsimp only
      exact wp_yes rfl (wpS_pure ⟨rfl, x, rfl, hx1, by omega, u, .inr z⟩)
    | false =>
      dsimp only
      exact wp_no (by decide) (wpS_pure ⟨rfl, rfl, up_moreF o u hx1 z⟩)
  · rintro r st' ⟨rfl, rfl, u⟩
    rw [show max 1 nrem = nrem by omega] at u ⊢
    exact ⟨rfl, nrem, rfl, h1, Nat.le_refl _, u, .inl rfl⟩
  · intro i j hi hij hj
    have : i = j := by omega
    subst this; exact o.rf _
  rintro r st' ⟨rfl, n, rfl, n1, n2, u, fin⟩
  dsimp only
  by_cases e1 : n = nrem
  · exact wp_yes (by simp [e1]) (wpS_pure (h _ p n S B n1 n2 u fun _ _ => rfl))
  refine wp_no (by simpa using e1) ?_
  have z : lt (p.getD (lo + n) 0) (p.getD (lo + n - 1) 0) = true := fin.resolve_left e1
  have zz := o.as _ _ z
  have K0 : ∀ i, i < lo -> p.getD i 0 = p.getD i 0 := fun _ _ => rfl
  have hl : n < nrem := by omega
  by_cases m : n > 1
  case' pos =>
    refine wp_yes m (wpS_bind (ltAt_ok c B S (by omega) (by omega) ?_))
    by_cases rz : lt (p.getD lo 0) (p.getD (lo + n - 1) 0) = true
    · rw [rz]
      dsimp only
      exact wp_yes rfl (wpS_pure (h _ p n S B n1 n2 u fun _ _ => rfl))
    have rz' : lt (p.getD lo 0) (p.getD (lo + n - 1) 0) = false := by simpa using rz
    rw [rz']
    dsimp only
    refine wp_no (by decide) (wpS_bind (rev_ok S fun st2 S2 => ?_))
    have fl : ∀ i j, lo <= i -> i < lo + n -> lo <= j -> j < lo + n -> lt (p.getD i 0) (p.getD j 0) = false := fun i j i0 i1 j0 j1 =>
      Le.tr o (Le.tr o (u j (lo + n - 1) j0 (by omega) (by omega)) rz') (u lo i (by omega) (by omega) (by omega))
    have B2 := B.rev lo (lo + n)
    have D2 : DownF lt (kas_rev p lo (lo + n)) lo (n + 1) := by
      intro i j hi hij hj
      rw [rev_at B (by omega), rev_at B (by omega)]
      by_cases e : j = lo + n
      · subst e
        rw [if_neg (show ¬ (lo <= lo + n /\ lo + n < lo + n) by omega)]
        by_cases e2 : i = lo + n
        · subst e2
          rw [if_neg (by omega)]
          exact o.rf _
        · rw [if_pos (by omega)]
          exact Le.tr o zz (fl _ _ (by omega) (by omega) (by omega) (by omega))
      · rw [if_pos (by omega), if_pos (by omega)]
        exact fl _ _ (by omega) (by omega) (by omega) (by omega)
    have K2 : ∀ i, i < lo -> (kas_rev p lo (lo + n)).getD i 0 = p.getD i 0 := fun i hi => by rw [rev_at B (by omega), if_neg (by omega)]
    generalize kas_rev p lo (lo + n) = p2 at S2 B2 D2 K2
  case' neg =>
    refine wp_no m ?_
    have B2 := B
    have S2 := S
    have K2 := K0
    have D2 : DownF lt p lo (n + 1) := down_moreF o (fun i j hi hij hj => by
      have : i = j := by omega
      subst this; exact o.rf _) n1 zz
    obtain ⟨st2, est2⟩ : ∃ st2, st2 = st' := ⟨_, rfl⟩
    obtain ⟨p2, ep2⟩ : ∃ p2, p2 = p := ⟨_, rfl⟩
    rw [<- est2] at S2 ⊢
    rw [<- ep2] at S2 B2 D2
    have K2 : ∀ i, i < lo -> p2.getD i 0 = p.getD i 0 := fun i _ => by rw [ep2]
  all_goals
    refine wpS_bind (wpS_lift (wpAny_rule ⟨rfl, ?_⟩))
    refine wpS_bind (wpS_mono (wpS_forRange
      (I := fun x r st3 => ∃ q p3, r = (none, x, q) /\ StP κ it st3 p3 pd /\ PB N p3 /\ DownF lt p3 lo x /\ q + 1 <= x /\ Flat lt p3 (lo + x - (q + 1)) (lo + x) /\ (∀ i, i < lo -> p3.getD i 0 = p.getD i 0))
      (Q := fun r st3 => ∃ x q p3, r = (none, x, q) /\ 1 <= x /\ x <= nrem /\ StP κ it st3 p3 pd /\ PB N p3 /\ DownF lt p3 lo x /\ q + 1 <= x /\ Flat lt p3 (lo + x - (q + 1)) (lo + x) /\ (∀ i, i < lo -> p3.getD i 0 = p.getD i 0)) ?_ ?_ ⟨0, p2, rfl, S2, B2, D2, by omega, ?_, K2⟩) ?_)
    · rintro x r st3 hx1 hx2 ⟨q, p3, rfl, S3, B3, D3, q1, F3, K3⟩
      dsimp only
      refine wpS_bind (ltAt_ok c B3 S3 (by omega) (by omega) ?_)
      by_cases y1 : lt (p3.getD (lo + x) 0) (p3.getD (lo + x - 1) 0) = true
      · rw [y1]
        dsimp only
        refine wp_yes rfl ?_
        have y2 := o.as _ _ y1
        by_cases q0 : q > 0
        · refine wp_yes q0 (wpS_bind (rev_ok S3 fun st4 S4 => wpS_pure ⟨0, _, rfl, S4, B3.rev _ _, ?_, by omega, fun i j i1 i2 j1 j2 => ?_, fun i hi => ?_⟩))
          · have en : (kas_rev p3 (lo + x - (q + 1)) (lo + x)).getD (lo + x) 0 = p3.getD (lo + x) 0 := by rw [rev_at B3 (by omega), if_neg (by omega)]
            have el : (kas_rev p3 (lo + x - (q + 1)) (lo + x)).getD (lo + x - 1) 0 = p3.getD (lo + x - (q + 1)) 0 := by
              rw [rev_at B3 (by omega), if_pos (by omega)]
              congr 1
              omega
            refine down_moreF o (down_flatF B3 (by omega) q1 D3 F3) (by omega) ?_
            rw [en, el]
            exact Le.tr o y2 (F3 _ _ (by omega) (by omega) (by omega) (by omega))
          · have : i = j := by omega
            subst this; exact o.rf _
          · rw [rev_at B3 (by omega), if_neg (by omega)]; exact K3 i hi
        · refine wp_no q0 (wpS_pure ⟨0, p3, rfl, S3, B3, down_moreF o D3 (by omega) y2, by omega, fun i j i1 i2 j1 j2 => ?_, K3⟩)
          have : i = j := by omega
          subst this; exact o.rf _
      · have y1' : lt (p3.getD (lo + x) 0) (p3.getD (lo + x - 1) 0) = false := by simpa using y1
        rw [y1']
        dsimp only
        refine wp_no (by decide) (wpS_bind (ltAt_ok c B3 S3 (by omega) (by omega) ?_))
        by_cases y2 : lt (p3.getD (lo + x - 1) 0) (p3.getD (lo + x) 0) = true
        · rw [y2]
          dsimp only
          exact wp_yes rfl (wpS_pure ⟨x, q, p3, rfl, by omega, by omega, S3, B3, D3, q1, F3, K3⟩)
        · have y2' : lt (p3.getD (lo + x - 1) 0) (p3.getD (lo + x) 0) = false := by simpa using y2
          rw [y2']
          dsimp only
          refine wp_no (by decide) (wpS_pure ⟨q + 1, p3, rfl, S3, B3, down_moreF o D3 (by omega) y2', by omega, fun i j i1 i2 j1 j2 => ?_, K3⟩)
          have fi : ∀ k, lo + (x + 1) - (q + 1 + 1) <= k -> k < lo + (x + 1) -> Le lt (p3.getD k 0) (p3.getD (lo + x - 1) 0) /\ Le lt (p3.getD (lo + x - 1) 0) (p3.getD k 0) := fun k k1 k2 => by
            by_cases ek : k = lo + x
            · rw [ek]; exact ⟨y2', y1'⟩
            · exact ⟨F3 _ _ (by omega) (by omega) (by omega) (by omega), F3 _ _ (by omega) (by omega) (by omega) (by omega)⟩
          exact Le.tr o (fi j j1 j2).1 (fi i i1 i2).2
    · rintro r st3 ⟨q, p3, rfl, S3, B3, D3, q1, F3, K3⟩
      rw [show max (n + 1) nrem = nrem by omega] at D3 q1 F3 ⊢
      exact ⟨nrem, q, p3, rfl, h1, Nat.le_refl _, S3, B3, D3, q1, F3, K3⟩
    · intro i j i1 i2 j1 j2
      have : i = j := by omega
      subst this; exact o.rf _
    rintro r st3 ⟨x, q, p3, rfl, x1, x2, S3, B3, D3, q1, F3, K3⟩
    dsimp only
    by_cases q0 : q > 0
    case' pos =>
      refine wp_yes q0 (wpS_bind (rev_ok S3 fun st4 S4 => ?_))
      have D4 := down_flatF B3 (by omega) q1 D3 F3
      have B4 := B3.rev (lo + x - (q + 1)) (lo + x)
      have K4 : ∀ i, i < lo -> (kas_rev p3 (lo + x - (q + 1)) (lo + x)).getD i 0 = p.getD i 0 := fun i hi => by rw [rev_at B3 (by omega), if_neg (by omega)]; exact K3 i hi
      generalize kas_rev p3 (lo + x - (q + 1)) (lo + x) = p4 at S4 D4 B4 K4
    case' neg =>
      refine wp_no q0 ?_
      have D4 := D3
      have B4 := B3
      have K4 := K3
      have S4 := S3
      generalize p3 = p4 at S4 D4 B4 K4
      generalize st3 = st4 at S4 ⊢
    all_goals
      refine wpS_bind (rev_ok S4 fun st5 S5 => ?_)
      have U5 := down_revF B4 (by omega) D4
      have B5 := B4.rev lo (lo + x)
      have K5 : ∀ i, i < lo -> (kas_rev p4 lo (lo + x)).getD i 0 = p.getD i 0 := fun i hi => by rw [rev_at B4 (by omega), if_neg (by omega)]; exact K4 i hi
      generalize kas_rev p4 lo (lo + x) = p5 at S5 U5 B5 K5
      refine wpS_bind (wpS_mono (wpS_forRange
        (I := fun y r st' => st' = st5 /\ r = (none, y) /\ UpF lt p5 lo y)
        (Q := fun r st' => st' = st5 /\ ∃ n, r = (none, n) /\ 1 <= n /\ n <= nrem /\ UpF lt p5 lo n) ?_ ?_ ⟨rfl, rfl, U5⟩) ?_)
      · rintro y r st' hy1 hy2 ⟨rfl, rfl, u⟩
        refine wpS_bind (ltAt_ok c B5 S5 (by omega) (by omega) ?_)
        cases z : lt (p5.getD (lo + y) 0) (p5.getD (lo + y - 1) 0) with
        | true =>
          dsimp only
          exact wp_yes rfl (wpS_pure ⟨rfl, y, rfl, by omega, by omega, u⟩)
        | false =>
          dsimp only
          exact wp_no (by decide) (wpS_pure ⟨rfl, rfl, up_moreF o u (by omega) z⟩)
      · rintro r st' ⟨rfl, rfl, u⟩
        rw [show max x nrem = nrem by omega] at u ⊢
        exact ⟨rfl, nrem, rfl, h1, Nat.le_refl _, u⟩
      · rintro r st' ⟨rfl, y, rfl, y1, y2, u⟩
        dsimp only
        exact wpS_pure (h _ p5 y S5 B5 y1 y2 u K5)
end
end L2
namespace L2
open PySem PySem.W PyProof.Rows
section
variable {prog : Program} {w : World} {A : Around} {E : Value -> Shared -> Prop} {s : Shared} {κ : SortKind} {it : Array Keyed} {lt : Nat -> Nat -> Bool} {N : Nat}
inductive Rn (lt : Nat -> Nat -> Bool) (p : Array Nat) : Nat -> List (Nat × Nat × Nat) -> Nat -> Prop
  | nil (a : Nat) : Rn lt p a [] a
  | cons {a n pw b : Nat} {ps : List (Nat × Nat × Nat)} (h0 : 0 < n) (u : UpF lt p a n) (t : Rn lt p (a + n) ps b) : Rn lt p a ((a, n, pw) :: ps) b
theorem Rn.le {p : Array Nat} {a b : Nat} {ps : List (Nat × Nat × Nat)} (h : Rn lt p a ps b) : a + ps.length <= b := by
  induction h with
  | nil => exact Nat.le_refl _
  | cons h0 _ _ ih => simp at ih ⊢; omega
theorem Rn.app {p : Array Nat} {a b c : Nat} {ps qs : List (Nat × Nat × Nat)} (h : Rn lt p a ps b) (h2 : Rn lt p b qs c) : Rn lt p a (ps ++ qs) c := by
  induction h with
  | nil => exact h2
  | cons h0 u _ ih => exact .cons h0 u (ih h2)
theorem Rn.cut {p : Array Nat} {c : Nat} {qs : List (Nat × Nat × Nat)} : ∀ {ps : List (Nat × Nat × Nat)} {a : Nat}, Rn lt p a (ps ++ qs) c -> ∃ b, Rn lt p a ps b /\ Rn lt p b qs c
  | [], a, h => ⟨a, .nil a, h⟩
  | x :: ps, a, h => by
    cases h with
    | cons h0 u t =>
      obtain ⟨b, h1, h2⟩ := Rn.cut t
      exact ⟨b, .cons h0 u h1, h2⟩
theorem UpF.same {p p' : Array Nat} {a n : Nat} (h : UpF lt p a n) (e : ∀ i, a <= i -> i < a + n -> p'.getD i 0 = p.getD i 0) : UpF lt p' a n := fun i j hi hij hj => by
  rw [e i hi (by omega), e j (by omega) hj]; exact h i j hi hij hj
theorem Rn.same {p p' : Array Nat} {a b : Nat} {ps : List (Nat × Nat × Nat)} (h : Rn lt p a ps b) (e : ∀ i, a <= i -> i < b -> p'.getD i 0 = p.getD i 0) : Rn lt p' a ps b := by
  induction h with
  | nil => exact .nil _
  | cons h0 u t ih =>
    have := t.le
    exact .cons h0 (u.same fun i h1 h2 => e i h1 (by omega)) (ih fun i h1 h2 => e i (by omega) h2)
theorem Rn.mod {p : Array Nat} {b : Nat} {f : Nat × Nat × Nat -> Nat × Nat × Nat} (hf : ∀ x, (f x).1 = x.1 /\ (f x).2.1 = x.2.1) : ∀ {ps : List (Nat × Nat × Nat)} {a : Nat} (k : Nat), Rn lt p a ps b -> Rn lt p a (ps.modify k f) b
  | [], a, k, h => by cases k <;> exact h
  | x :: ps, a, 0, h => by
    cases h with
    | cons h0 u t =>
      rename_i n pw
      obtain ⟨e1, e2⟩ := hf (a, n, pw)
      have e : f (a, n, pw) = (a, n, (f (a, n, pw)).2.2) := Prod.ext e1 (Prod.ext e2 rfl)
      show Rn lt p a (f (a, n, pw) :: ps) b
      rw [e]
      exact .cons h0 u t
  | x :: ps, a, k + 1, h => by
    cases h with
    | cons h0 u t => exact .cons h0 u (Rn.mod hf k t)
theorem Rn.at {p : Array Nat} {a b i : Nat} {ps : List (Nat × Nat × Nat)} (h : Rn lt p a ps b) (hi : i + 1 < ps.length) : ∃ ps1 sa na w1 nb w2 ps2, ps = ps1 ++ (sa, na, w1) :: (sa + na, nb, w2) :: ps2 /\ ps1.length = i := by
  have e : ps = ps.take i ++ ps.drop i := (List.take_append_drop _ _).symm
  rw [e] at h
  obtain ⟨c, _, h2⟩ := Rn.cut h
  rw [List.drop_eq_getElem_cons (show i < ps.length by omega), List.drop_eq_getElem_cons hi] at h2 e
  generalize hx : ps[i] = x at h2 e
  generalize hy : ps[i + 1] = y at h2 e
  cases h2 with
  | cons h0 u t =>
    cases t with
    | cons h0' u' t' => exact ⟨ps.take i, _, _, _, _, _, _, e, by rw [List.length_take]; omega⟩
theorem getD_toList (p : Array Nat) (i : Nat) : p.getD i 0 = p.toList.getD i 0 := by rw [Array.getD_eq_getD_getElem?, List.getD_eq_getElem?_getD, Array.getElem?_toList]
theorem up_slice {p : Array Nat} {a n : Nat} (u : UpF lt p a n) (h : a + n <= p.size) : ((p.toList.drop a).take n).Pairwise (Le lt) := by
  rw [List.pairwise_iff_getElem]
  intro i j hi hj hij
  rw [List.length_take, List.length_drop] at hi hj
  rw [List.getElem_take, List.getElem_take, List.getElem_drop, List.getElem_drop]
  have g : ∀ k (hk : k < p.toList.length), p.toList[k] = p.getD k 0 := fun k hk => by rw [getD_toList, List.getD_eq_getElem?_getD, List.getElem?_eq_getElem hk]; rfl
  rw [g, g]
  exact u _ _ (by omega) (by omega) (by omega)
theorem mergeAt_runs {i lo sa na w1 sb nb w2 : Nat} {ps1 ps2 : List (Nat × Nat × Nat)} {p : Array Nat} {pd : Array (Nat × Nat × Nat)} {st : SortSt} {Q : Bool -> SortSt -> Prop} (c : Cmp prog w A κ it lt N s) (o : Ord lt) (B : PB N p) (S : StP κ it st p pd) (hpd : pd.toList = ps1 ++ (sa, na, w1) :: (sb, nb, w2) :: ps2) (hi : ps1.length = i)
    (R : Rn lt p 0 pd.toList lo) (hlo : lo <= N) (h : ∀ st' p' pd', StP κ it st' p' pd' -> PB N p' -> pd'.toList = ps1 ++ (sa, na + nb, w1) :: ps2 -> Rn lt p' 0 pd'.toList lo -> (∀ j, lo <= j -> p'.getD j 0 = p.getD j 0) -> Q true st') : wpS (model prog w) A E s (mergeAt' i) Q st := by
  rw [hpd] at R
  obtain ⟨b, R1, R2⟩ := Rn.cut R
  cases R2 with
  | cons a0 ua t =>
    cases t with
    | cons b0 ub R3 =>
      have l3 := R3.le
      have ps : p.size = N := B.size
      have pl : p.toList.length = N := by rw [Array.length_toList, ps]
      generalize hP : p.toList.take sa = P
      generalize hX : (p.toList.drop sa).take na = X
      generalize hY : (p.toList.drop (sa + na)).take nb = Y
      generalize hZ : p.toList.drop (sa + na + nb) = Z
      have lP : P.length = sa := by rw [<- hP, List.length_take]; omega
      have lX : X.length = na := by rw [<- hX, List.length_take, List.length_drop]; omega
      have lY : Y.length = nb := by rw [<- hY, List.length_take, List.length_drop]; omega
      have eL : p.toList = P ++ X ++ Y ++ Z := by
        rw [<- hP, <- hX, <- hY, <- hZ, List.append_assoc, List.append_assoc]
        conv => lhs; rw [<- List.take_append_drop sa p.toList]
        congr 1
        conv => lhs; rw [<- List.take_append_drop na (p.toList.drop sa)]
        congr 1
        rw [List.drop_drop]
        conv => lhs; rw [<- List.take_append_drop nb (p.toList.drop (sa + na))]
        congr 1
        rw [List.drop_drop]
      have sX : X.Pairwise (Le lt) := by rw [<- hX]; exact up_slice ua (by omega)
      have sY : Y.Pairwise (Le lt) := by rw [<- hY]; exact up_slice ub (by omega)
      have S' : StAt κ it st (P ++ X ++ Y ++ Z) pd := ⟨S.k, by rw [S.a, <- eL]; apply Array.toList_inj.mp; rw [Array.toList_map], S.p, S.f⟩
      have lN : ∀ x ∈ P ++ X ++ Y ++ Z, x < N := fun x hx => by
        rw [<- eL] at hx
        have := B.perm.mem_iff.mp (by simpa using hx)
        simpa using this
      have p1 : pd[i]? = some (P.length, X.length, w1) := by rw [<- Array.getElem?_toList, hpd, <- hi, lP, lX]; simp
      have p2 : pd[i + 1]? = some (P.length + X.length, Y.length, w2) := by rw [<- Array.getElem?_toList, hpd, <- hi, lP, lX, lY]; simp
      refine mergeAt_ok c o S' lN p1 p2 (by omega) (by omega) sX sY fun st' W SW pW sW => ?_
      have lW : W.length = na + nb := by rw [pW.length_eq, List.length_append, lX, lY]
      have pW' : (P ++ W ++ Z).Perm p.toList := by
        rw [eL, List.append_assoc (P ++ X) Y Z, List.append_assoc P X, List.append_assoc P W]
        refine List.Perm.append_left _ ?_
        rw [<- List.append_assoc]
        exact List.Perm.append_right _ pW
      have gD : ∀ j, ((P ++ W ++ Z).toArray).getD j 0 = (P ++ W ++ Z).getD j 0 := fun j => by rw [getD_toList]
      have keep : ∀ j, j < sa \/ sa + na + nb <= j -> ((P ++ W ++ Z).toArray).getD j 0 = p.getD j 0 := fun j hj => by
        rw [gD, getD_toList, eL, List.getD_eq_getElem?_getD, List.getD_eq_getElem?_getD]
        congr 1
        rcases hj with hj | hj
        · rw [List.append_assoc, List.append_assoc, List.append_assoc, List.getElem?_append_left (by omega), List.getElem?_append_left (by omega)]
        · rw [List.getElem?_append_right (by rw [List.length_append]; omega), List.getElem?_append_right (by rw [List.length_append, List.length_append]; omega)]
          congr 1
          rw [List.length_append, List.length_append, List.length_append]
          omega
      refine h st' (P ++ W ++ Z).toArray _ ⟨SW.k, by rw [SW.a]; simp, SW.p, SW.f⟩ ⟨?_⟩ ?_ ?_ (fun j hj => keep j (.inr (by omega)))
      · exact Array.Perm.trans (by rw [Array.perm_iff_toList_perm]; exact pW') B.perm
      · rw [Array.toList_eraseIdxIfInBounds, Array.toList_setIfInBounds, hpd, <- hi, lP, lX, lY]
        simp [List.eraseIdx_append_of_length_le]
      · rw [Array.toList_eraseIdxIfInBounds, Array.toList_setIfInBounds, hpd, <- hi, lP, lX, lY]
        have e : ((ps1 ++ (sa, na, w1) :: (sa + na, nb, w2) :: ps2).set ps1.length (sa, na + nb, w1)).eraseIdx (ps1.length + 1) = ps1 ++ (sa, na + nb, w1) :: ps2 := by
          simp [List.eraseIdx_append_of_length_le]
        rw [e]
        refine (R1.same fun j _ h2 => keep j (.inl h2)).app (.cons (by omega) ?_ ?_)
        · intro i j hi' hij hj
          rw [gD, gD]
          have gW : ∀ k, sa <= k -> k < sa + (na + nb) -> (P ++ W ++ Z).getD k 0 = W.getD (k - sa) 0 := fun k k1 k2 => by
            rw [List.getD_eq_getElem?_getD, List.getD_eq_getElem?_getD, List.append_assoc, List.getElem?_append_right (by omega), List.getElem?_append_left (by omega), lP]
          rw [gW i hi' (by omega), gW j (by omega) hj]
          by_cases e : i = j
          · subst e; exact o.rf _
          · have gE : ∀ k (hk : k < W.length), W.getD k 0 = W[k] := fun k hk => by rw [List.getD_eq_getElem?_getD, List.getElem?_eq_getElem hk]; rfl
            rw [gE (i - sa) (by omega), gE (j - sa) (by omega)]
            exact List.pairwise_iff_getElem.mp sW _ _ (by omega) (by omega) (by omega)
        · rw [<- Nat.add_assoc]
          exact R3.same fun j h1 _ => keep j (.inr h1)
end
end L2
namespace L2
open PySem PySem.W PyProof.Rows
section
variable {prog : Program} {w : World} {A : Around} {E : Value -> Shared -> Prop} {s : Shared} {κ : SortKind} {it : Array Keyed} {lt : Nat -> Nat -> Bool} {N : Nat}
theorem mergeAt_any {i lo : Nat} {p : Array Nat} {pd : Array (Nat × Nat × Nat)} {st : SortSt} {Q : Bool -> SortSt -> Prop} (c : Cmp prog w A κ it lt N s) (o : Ord lt) (B : PB N p) (S : StP κ it st p pd) (R : Rn lt p 0 pd.toList lo) (hlo : lo <= N) (hi : i + 1 < pd.size)
    (h : ∀ st' p' pd', StP κ it st' p' pd' -> PB N p' -> pd'.size = pd.size - 1 -> Rn lt p' 0 pd'.toList lo -> (∀ j, lo <= j -> p'.getD j 0 = p.getD j 0) -> Q true st') : wpS (model prog w) A E s (mergeAt' i) Q st := by
  obtain ⟨ps1, sa, na, w1, nb, w2, ps2, e1, e2⟩ := R.at (i := i) (by rw [Array.length_toList]; exact hi)
  refine mergeAt_runs c o B S e1 e2 R hlo fun st3 p3 pd3 S3 B3 e3 R3 k3 => h st3 p3 pd3 S3 B3 ?_ R3 k3
  have a1 : pd3.toList.length = pd3.size := Array.length_toList
  have a2 : pd.toList.length = pd.size := Array.length_toList
  rw [e3] at a1
  rw [e1] at a2
  simp at a1 a2
  omega
theorem sortRuns_ok {p : Array Nat} {st : SortSt} {Q : Unit -> SortSt -> Prop} (c : Cmp prog w A κ it lt N s) (o : Ord lt) (B : PB N p) (S : StP κ it st p #[]) (h2 : 2 <= N)
    (h : ∀ st' p' pd, StP κ it st' p' pd -> PB N p' -> UpF lt p' 0 N -> Q () st') : wpS (model prog w) A E s sortRuns' Q st := by
  refine wpS_bind (wpS_get ?_)
  have hs : (arrOf st).size = N := by rw [S.a, Array.size_map, B.size]
  dsimp only
  rw [hs]
  generalize minRun' N N 0 = mr
  refine wpS_bind (wpS_mono (wpS_forRange
    (I := fun x r st' => ∃ lo p' pd, r = (none, lo) /\ StP κ it st' p' pd /\ PB N p' /\ Rn lt p' 0 pd.toList lo /\ lo <= N /\ x <= lo)
    (Q := fun r st' => ∃ p' pd, r = (none, N) /\ StP κ it st' p' pd /\ PB N p' /\ Rn lt p' 0 pd.toList N) ?_ ?_ ⟨0, p, #[], rfl, S, B, .nil 0, by omega, by omega⟩) ?_)
  rotate_left
  · rintro r st' ⟨lo, p', pd, rfl, S', B', R', l1, l2⟩
    have : lo = N := by omega
    subst this
    exact ⟨p', pd, rfl, S', B', R'⟩
  · rintro r st' ⟨p', pd, rfl, S', B', R'⟩
    dsimp only
    refine wpS_bind (wpS_mono (wpS_forRange
      (I := fun x r st' => ∃ p' pd, r = (none, ()) /\ StP κ it st' p' pd /\ PB N p' /\ Rn lt p' 0 pd.toList N /\ pd.size + x <= N)
      (Q := fun r st' => ∃ p' pd, r = (none, ()) /\ StP κ it st' p' pd /\ PB N p' /\ Rn lt p' 0 pd.toList N /\ pd.size <= 1) ?_ ?_ ⟨p', pd, rfl, S', B', R', ?_⟩) ?_)
    · rintro x r st' _ hx ⟨p', pd, rfl, S', B', R', l1⟩
      rcases st' with ⟨kd, ar, pn, gl, fl⟩
      have ep : pn = pd := S'.p
      subst ep
      refine wpS_bind (wpS_get ?_)
      by_cases e : pn.size <= 1
      · exact wp_yes e (wpS_pure ⟨p', pn, rfl, S', B', R', e⟩)
      refine wp_no e ?_
      refine wpS_bind (mergeAt_any c o B' S' R' (Nat.le_refl _) ?_ fun st3 p3 pd3 S3 B3 l3 R3 _ => ?_)
      · dsimp only
        repeat' split
        all_goals omega
      · refine wp_no (by decide) (wpS_pure ⟨p3, pd3, rfl, S3, B3, R3, by omega⟩)
    · rintro r st' ⟨p', pd, rfl, S', B', R', l1⟩
      exact ⟨p', pd, rfl, S', B', R', by omega⟩
    · have := R'.le
      rw [Array.length_toList] at this
      omega
    · rintro r st' ⟨p', pd, rfl, S', B', R', l1⟩
      dsimp only
      refine wpS_pure (h _ p' pd S' B' ?_)
      generalize hl : pd.toList = ps at R'
      cases R' with
      | nil => omega
      | cons h0 u t =>
        cases t with
        | nil => rw [Nat.zero_add]; exact u
        | cons h0' u' t' =>
          have : pd.toList.length <= 1 := by rw [Array.length_toList]; exact l1
          rw [hl] at this
          simp at this
  rintro x r st' _ hx ⟨lo, p', pd, rfl, S', B', R', l1, l2⟩
  dsimp only
  by_cases e : lo >= N
  · have : lo = N := by omega
    subst this
    exact wp_yes e (wpS_pure ⟨p', pd, rfl, S', B', R'⟩)
  refine wp_no e (wpS_bind (count_ok c o B' S' (by omega) (by omega) fun st2 p2 n S2 B2 n1 n2 U2 K2 => ?_))
  dsimp only
  refine wp_ite (fun hm => ?_) (fun hm => ?_)
  case' refine_1 =>
    refine wpS_bind (wpS_lift (wpAny_rule ⟨rfl, ?_⟩))
    refine wpS_bind (binary_ok c o B2 S2 (by omega) (by omega) (by omega) U2 fun st3 p3 S3 B3 U3 K3' => ?_)
    refine wp_no (by decide) ?_
    have K3 : ∀ i, i < lo -> p3.getD i 0 = p'.getD i 0 := fun i hi => (K3' i hi).trans (K2 i hi)
    have n3 : 0 < min (N - lo) (minRun' N N 0) := by
      have : n < minRun' N N 0 := hm
      omega
    have n4 : lo + min (N - lo) (minRun' N N 0) <= N := by omega
  case' refine_2 =>
    have S3 := S2
    have B3 := B2
    have U3 := U2
    have K3 := K2
    generalize p2 = p3 at S3 B3 U3 K3
    generalize st2 = st3 at S3 ⊢
    have n3 : 0 < n := n1
    have n4 : lo + n <= N := by omega
  all_goals
    have R3 := R'.same (p' := p3) fun i _ hi => K3 i hi
    refine wpS_bind (wpS_get ?_)
    rw [show (pendingOf st3).back? = pd.back? by rw [S3.p]]
    have push : ∀ (st4 : SortSt) (p4 : Array Nat) (pd4 : Array (Nat × Nat × Nat)) (k : Nat), 0 < k -> lo + k <= N -> UpF lt p4 lo k -> StP κ it st4 p4 pd4 -> PB N p4 -> Rn lt p4 0 pd4.toList lo ->
        ∃ p' pd, StP κ it (setPending st4 ((pendingOf st4).push (lo, k, 0))) p' pd /\ PB N p' /\ Rn lt p' 0 pd.toList (lo + k) /\ lo + k <= N /\ x + 1 <= lo + k := fun st4 p4 pd4 k k1 k2 u4 S4 B4 R4 =>
      ⟨p4, pd4.push (lo, k, 0), ⟨S4.k, S4.a, by show (pendingOf st4).push _ = _; rw [S4.p], S4.f⟩, B4, by rw [Array.toList_push]; exact R4.app (.cons k1 u4 (.nil _)), k2, by omega⟩
    cases hb : pd.back? with
    | none =>
      dsimp only
      obtain ⟨p9, pd9, q1, q2, q3, q4, q5⟩ := push st3 p3 pd _ n3 n4 U3 S3 B3 R3
      exact wpS_bind (wpS_modify (wpS_pure ⟨_, p9, pd9, rfl, q1, q2, q3, q4, q5⟩))
    | some b =>
      obtain ⟨s1, m1, w1⟩ := b
      dsimp only
      refine wpS_bind (wpS_mono (wpS_forRange
        (I := fun _ r st' => ∃ p4 pd4, r = (none, ()) /\ StP κ it st' p4 pd4 /\ PB N p4 /\ Rn lt p4 0 pd4.toList lo /\ ∀ j, lo <= j -> p4.getD j 0 = p3.getD j 0)
        (Q := fun r st' => ∃ p4 pd4, r = (none, ()) /\ StP κ it st' p4 pd4 /\ PB N p4 /\ Rn lt p4 0 pd4.toList lo /\ ∀ j, lo <= j -> p4.getD j 0 = p3.getD j 0) ?_ (fun _ _ z => z) ⟨p3, pd, rfl, S3, B3, R3, fun _ _ => rfl⟩) ?_)
      · rintro y r st4 _ hy ⟨p4, pd4, rfl, S4, B4, R4, K4⟩
        rcases st4 with ⟨kd, ar, pn, gl, fl⟩
        have ep : pn = pd4 := S4.p
        subst ep
        refine wpS_bind (wpS_get ?_)
        dsimp only
        by_cases e5 : pn.size > 1
        · have e6 : pn[pn.size - 2]? = some pn[pn.size - 2] := Array.getElem?_eq_getElem (by omega)
          rw [if_pos e5, e6]
          generalize pn[pn.size - 2] = b6
          obtain ⟨b61, b62, b63⟩ := b6
          dsimp only
          refine wp_ite (fun _ => wpS_pure ⟨p4, pn, rfl, S4, B4, R4, K4⟩) (fun _ => ?_)
          refine wpS_bind (mergeAt_any c o B4 S4 R4 l1 (by omega) fun st5 p5 pd5 S5 B5 l5 R5 K5 => ?_)
          exact wp_no (by decide) (wpS_pure ⟨p5, pd5, rfl, S5, B5, R5, fun j hj => (K5 j hj).trans (K4 j hj)⟩)
        · rw [if_neg e5]
          exact wpS_pure ⟨p4, pn, rfl, S4, B4, R4, K4⟩
      · rintro r st4 ⟨p4, pd4, rfl, S4, B4, R4, K4⟩
        rcases st4 with ⟨kd, ar, pn, gl, fl⟩
        have ep : pn = pd4 := S4.p
        subst ep
        dsimp only
        refine wpS_bind (wpS_modify (wpS_bind (wpS_modify (wpS_pure ?_))))
        have U4 := U3.same (p' := p4) fun i h1 _ => K4 i h1
        refine ⟨_, p4, _, rfl, ⟨S4.k, S4.a, rfl, S4.f⟩, B4, ?_, n4, by omega⟩
        dsimp only
        rw [Array.toList_push, Array.toList_modify]
        refine Rn.app (Rn.mod ?_ _ R4) (.cons n3 U4 (.nil _))
        intro z
        exact ⟨rfl, rfl⟩
end
end L2
namespace L2
open PySem PySem.W PyProof.Rows
section
variable {prog : Program} {w : World} {A : Around} {E : Value -> Shared -> Prop} {s : Shared}
theorem sort_bodyG {a : Addr} {vs : List Value} {n : Nat} {lt : Nat -> Nat -> Bool} {P : PySem.Fin -> Shared -> Prop} (ho : s.heap.get? a = some (seqObj "list" vs.toArray n)) (o : Ord lt) (hbig : vs.length <= 1000000)
    (ask : 2 <= vs.length -> ∀ h', (∀ b u, b ≠ a -> s.heap.get? b = some u -> h'.get? b = some u) -> ∃ κ : SortKind, (∀ (E : Value -> Shared -> Prop) (Q : SortKind -> Shared -> Prop), Q κ { s with heap := h' } -> wpAny (model prog w) A (keyKind' vs.toArray) Q E { s with heap := h' }) /\
      ∀ (i j : Nat) (C : Bool -> Shared -> Prop), i < vs.length -> j < vs.length -> C (lt i j) { s with heap := h' } -> wpAny (model prog w) A (keyLt' κ (vs.getD i Value.none) (vs.getD j Value.none)) C (fun _ _ => False) { s with heap := h' })
    (q : ∀ p, PB vs.length p -> Up lt p vs.length -> P (.done (.ret .none)) { s with heap := sortedHeap s.heap a vs (outOf vs p).toArray }) : wpAny (model prog w) A (Builtin.«list.sort» ⟨[.ref a], []⟩) P E s := by
  rw [list_sort_plain]
  have la : a < s.heap.objs.size := Heap.lt_size ho
  have zs : vs.length <= sizeLine := by rw [sizeLine_eq]; omega
  refine wpAny_bind (listItems_at ho rfl (wpAny_bind (listUpdate_at ho rfl ?_ (by rw [List.size_toArray]; exact zs) (Nat.zero_le _))))
  obtain ⟨e1, o1⟩ : ∃ e1, (s.heap.update a (Obj.mapSeq fun _ => (#[] : Array Value))).get? a = some (seqObj "list" #[] e1) := ⟨_, get?_update_seq ho fun _ => #[]⟩
  refine wpAny_bind (seqEpoch_at o1 rfl (wpAny_bind (wpAny_newTuple (wpAny_bind (wpAny_newList (wpAny_holding ?_) (Nat.zero_le _))) (by show vs.length <= _; exact zs))))
  have sb := Heap.SameBut.update s.heap a (Obj.mapSeq fun _ => (#[] : Array Value))
  have keep : ∀ b u, b ≠ a -> s.heap.get? b = some u -> (((s.heap.update a (Obj.mapSeq fun _ => #[])).push (seqObj "tuple" vs.toArray 0)).push (seqObj "list" #[] 0)).get? b = some u := fun b u hb z =>
    Heap.get?_push_of_some _ (Heap.get?_push_of_some _ ((sb.2 b hb).trans z))
  have o6 : (((s.heap.update a (Obj.mapSeq fun _ => #[])).push (seqObj "tuple" vs.toArray 0)).push (seqObj "list" #[] 0)).get? a = some (seqObj "list" #[] e1) := Heap.get?_push_of_some _ (Heap.get?_push_of_some _ o1)
  show wpAny (model prog w) A _ P E { s with heap := ((s.heap.update a (Obj.mapSeq fun _ => (#[] : Array Value))).push (seqObj "tuple" vs.toArray 0)).push (seqObj "list" #[] 0) }
  dsimp only
  have fin : ∀ (st : SortSt) (out : List Value), (arrOf st).map (·.2) = out.toArray -> out.length = vs.length -> failedOf st = none -> P (.done (.ret .none)) { s with heap := sortedHeap s.heap a vs out.toArray } ->
      wpAny (model prog w) A (do
        let touched := (<- seqEpoch a) != e1
        Builtin.List.listUpdate (.ref a) fun _ => (arrOf st).map (·.2)
        if let some e := failedOf st then rule "list.sort.comparison-raised"; throw e
        if touched then rule "list.sort.modified"; raiseError "ValueError" "list modified during sort"
        ret .none) P E { s with heap := ((s.heap.update a (Obj.mapSeq fun _ => (#[] : Array Value))).push (seqObj "tuple" vs.toArray 0)).push (seqObj "list" #[] 0) } := by
    intro st out eo el ef qq
    refine wpAny_bind (seqEpoch_at o6 rfl ?_)
    rw [eo]
    refine wpAny_bind (listUpdate_at o6 rfl ?_ (Nat.zero_le _) (by show out.toArray.size <= _; rw [List.size_toArray, el, sizeLine_eq]; omega))
    rw [ef]
    simp only [bne_self_eq_false, Bool.false_eq_true, if_false]
    exact wpAny_pure qq
  by_cases two : vs.length >= 2
  · have hn2 : ¬ vs.toArray.size < 2 := by rw [List.size_toArray]; omega
    rw [if_neg hn2, if_neg hn2]
    obtain ⟨κ, kk, cc⟩ := ask two _ keep
    have hit : ∀ i, i < vs.length -> (kas_item (vs.toArray.zip vs.toArray) i).1 = vs.getD i Value.none := fun i hi => by simp [kas_item, Array.getD, List.getD, hi]
    refine wpAny_bind (kk _ _ ?_)
    have C : Cmp prog w A κ (vs.toArray.zip vs.toArray) lt vs.length { s with heap := ((s.heap.update a (Obj.mapSeq fun _ => (#[] : Array Value))).push (seqObj "tuple" vs.toArray 0)).push (seqObj "list" #[] 0) } := fun i j C hi hj hC => by
      unfold kas_cmp
      rw [hit i hi, hit j hj]
      exact cc i j C hi hj hC
    have S0 : StP κ (vs.toArray.zip vs.toArray) (SortSt.mk' κ (vs.toArray.zip vs.toArray) #[] 7 none) (List.range vs.length).toArray #[] := by
      refine ⟨rfl, ?_, rfl, rfl⟩
      show vs.toArray.zip vs.toArray = _
      apply Array.ext (by simp)
      intro i h1 h2
      simp at h1
      simp [kas_item, Array.getD, h1]
    refine wpAny_bind (wpAny_mono (sortRuns_ok (E := E) (Q := fun _ st' => ∃ p, PB vs.length p /\ Up lt p vs.length /\ arrOf st' = p.map (kas_item (vs.toArray.zip vs.toArray)) /\ failedOf st' = none) C o ⟨Array.Perm.refl _⟩ S0 two fun st' p' pd S' B' U' => ⟨p', B', fun i j hij hj => U' i j (Nat.zero_le _) hij (by omega), S'.a, S'.f⟩) ?_ fun _ _ x => x)
    rintro ⟨⟨⟩, st'⟩ s' ⟨rfl, p, pb, up, ea, ef⟩
    exact fin st' (outOf vs p) (kat_snds rfl ea) (by unfold outOf; rw [List.length_map, Array.length_toList, pb.size]) ef (q p pb up)
  · have hn2 : vs.toArray.size < 2 := by rw [List.size_toArray]; omega
    rw [if_pos hn2, if_pos hn2]
    refine wpAny_bind (wpAny_pure ?_)
    rw [StateT.run_pure]
    refine wpAny_bind (wpAny_pure ?_)
    refine fin (SortSt.mk' general' (vs.toArray.zip vs.toArray) #[] 7 none) (outOf vs (List.range vs.length).toArray) ?_ (by rw [sort_one two]) rfl (q _ ⟨Array.Perm.refl _⟩ ?_)
    · rw [sort_one two]; exact zip_snd vs
    · intro i j hij hj
      have : i = j := by omega
      subst this; exact o.rf _
end
end L2
namespace L2
open PySem PySem.W PyProof.Rows
section
variable {X : Cx}
end
end L2
namespace L2
open PySem PySem.Spec PyProof.Rows
theorem sqT {K : PySem.W.Frag} {H H' : Hp} {a : Addr} {xs : List V} (e : Same H H') (h : SqT K H a xs) : SqT K H' a xs := e.seqK (k := .t) h
section
variable {X : Cx}
end
end L2
namespace L2
open PySem PySem.W PyProof.Rows
section
variable {X : Cx}
end
section
variable {prog : Program} {w : World} {A : Around}
end
section
variable {X : Cx}
end
end L2
namespace L2
open PySem PySem.Spec PyProof.Rows
theorem all_eq : ∀ (a b : List Int), ((List.range (min a.length b.length)).all (fun j => decide (a.getD j 0 = b.getD j 0)) && a.length == b.length) = decide (a = b)
  | a, b => by
    by_cases e : a = b
    · subst e
      rw [decide_eq_true rfl]
      simp
    · rw [decide_eq_false e]
      by_cases hl : a.length = b.length
      · rw [show (a.length == b.length) = true by simpa using hl, Bool.and_true, Bool.eq_false_iff]
        intro h
        rw [List.all_eq_true] at h
        refine e (List.ext_getElem hl fun i h1 h2 => ?_)
        have := h i (List.mem_range.mpr (by omega))
        have := of_decide_eq_true this
        simpa [List.getD, h1, h2] using this
      · rw [show (a.length == b.length) = false by simpa using hl, Bool.and_false]
section
variable {X : Cx}
theorem tup_eqAt {pins : List (Addr × Obj)} {σ : St} {H : Hp} {s : Shared} (I : Inv X pins σ H s) {a b : Addr} {ks ms : List Int} (hb : SqT X.K H b (ms.map V.int)) (ha : SqT X.K H a (ks.map V.int)) {A : Around} (hu : A.units + 2 < cLine) : SeqAt.EqAt A s (.ref b) (.ref a) (decide (ms = ks)) := by
  by_cases e : b = a
  · subst e
    have := I.tuple_inj hb ha
    have e2 : ms = ks := by
      have := congrArg (List.map fun v : V => match v with | .int i => i | _ => 0) this
      rw [List.map_map, List.map_map] at this
      have e1 : ∀ l : List Int, l.map ((fun v : V => match v with | .int i => i | _ => 0) ∘ V.int) = l := fun l => (List.map_congr_left fun _ _ => rfl).trans (List.map_id _)
      rw [e1, e1] at this
      exact this
    rw [decide_eq_true e2]
    exact SeqAt.EqAt.same _
  · obtain ⟨its, r1, t1, _⟩ := I.tuple hb
    obtain ⟨its2, r2, t2, _⟩ := I.tuple ha
    refine SeqAt.EqAt.of_refs e ?_
    have l1 : its.length = ms.length := by have := r1.length; rw [List.length_map] at this; omega
    have l2 : its2.length = ks.length := by have := r2.length; rw [List.length_map] at this; omega
    have q := SeqAt.RcAt.tuples (e := fun j => decide (ms.getD j 0 = ks.getD j 0)) (A := A) t1 t2 (by omega) (fun j h1 h2 => ?_)
    · rw [show its.toArray.size = ms.length by simp [l1], show its2.toArray.size = ks.length by simp [l2], all_eq] at q
      exact q
    · simp at h1 h2
      have g1 : j < ms.length := by omega
      have g2 : j < ks.length := by omega
      obtain ⟨u1, e1, q1⟩ := r1.get (i := j) (x := .int ms[j]) (by simp [g1])
      obtain ⟨u2, e2, q2⟩ := r2.get (i := j) (x := .int ks[j]) (by simp [g2])
      have w1 : its.toArray[j] = u1 := by have := List.getElem?_eq_some_iff.mp e1; simpa using this.2
      have w2 : its2.toArray[j] = u2 := by have := List.getElem?_eq_some_iff.mp e2; simpa using this.2
      rw [w1, w2]
      have z := eqAt_V (A := A.in1) (s := s) q1 q2 rfl rfl
      have e3 : eqV (.int ms[j]) (.int ks[j]) = decide (ms.getD j 0 = ks.getD j 0) := by
        simp [eqV, List.getD, g1, g2]
        try rfl
      rw [e3] at z
      exact z
def inU (H : Hp) (ks : List Int) (u : Value) : Bool := match u with
  | .ref b => (match H b with | some (.tup ys) => decide (ys = ks.map V.int) | _ => false)
  | _ => false
theorem map_int_inj3 {a b : List Int} (h : a.map V.int = b.map V.int) : a = b := by
  have e1 : ∀ l : List Int, l.map ((fun v : V => match v with | .int i => i | _ => 0) ∘ V.int) = l := fun l => (List.map_congr_left fun _ _ => rfl).trans (List.map_id _)
  have := congrArg (List.map fun v : V => match v with | .int i => i | _ => 0) h
  rw [List.map_map, List.map_map, e1, e1] at this
  exact this
theorem inU_at {H : Hp} {ks ms : List Int} {b : Addr} (h : H b = some (.tup (ms.map V.int))) : inU H ks (.ref b) = decide (ms = ks) := by
  show (match H b with | some (.tup ys) => decide (ys = ks.map V.int) | _ => false) = _
  rw [h]
  show decide _ = decide _
  rw [decide_eq_decide]
  exact ⟨map_int_inj3, fun z => by rw [z]⟩
theorem any_inU {H : Hp} {ks : List Int} : ∀ {rs : List V} {kss : List (List Int)} {us : List Value}, Vals rs us -> Paired (IntsAt H) rs kss -> us.any (inU H ks) = decide (ks ∈ kss)
  | _, _, _, .nil, .nil => by simp
  | _, _, _, .cons r t, .cons (b := ms) p q => by
    obtain ⟨b, rfl, hb⟩ := p
    cases (show _ = Value.ref b from r)
    rw [List.any_cons, any_inU t q, inU_at hb]
    by_cases e : ms = ks
    · rw [decide_eq_true e, e]; simp
    · rw [decide_eq_false e, Bool.false_or, decide_eq_decide, List.mem_cons]
      exact ⟨.inr, fun z => z.elim (fun y => absurd y.symm e) id⟩
theorem mem_inU {pins : List (Addr × Obj)} {σ : St} {H : Hp} {s : Shared} (I : Inv X pins σ H s) {a : Addr} {ks : List Int} (ha : SqT X.K H a (ks.map V.int)) {A : Around} (hu : A.units + 2 < cLine) : ∀ {rs : List V} {kss : List (List Int)} {us : List Value}, Vals rs us -> Paired (IntsAt H) rs kss -> ∀ u ∈ us, SeqAt.EqAt A s u (.ref a) (inU H ks u)
  | _, _, _, .nil, .nil => fun u hu => by cases hu
  | _, _, _, .cons r t, .cons (b := ms) p q => fun u hu' => by
    obtain ⟨b, rfl, hb⟩ := p
    cases (show _ = Value.ref b from r)
    rcases List.mem_cons.mp hu' with rfl | hu'
    · rw [inU_at hb]
      exact tup_eqAt I (SqT.of hb) ha hu
    · exact mem_inU I ha hu t q u hu'
def rInT (K : PySem.W.Frag) (neg : Bool) : R2 := fun x y H Q => ∃ a p rs ks kss, x = .ref a /\ y = .ref p /\ SqT K H a (ks.map V.int) /\ SqL K H p rs /\ Paired (IntsAt H) rs kss /\ Q (.bl (if neg then !decide (ks ∈ kss) else decide (ks ∈ kss))) H
theorem op_notInT (hu : X.A.units + 66 < cLine) : OpR X (compareOp .NotIn) (rInT X.K true) := by
  intro pins s σ H x y v u Q I rx ry h
  obtain ⟨a, p, rs, ks, kss, rfl, rfl, ha, hp, hk, q⟩ := h
  cases (show v = Value.ref a from rx)
  cases (show u = Value.ref p from ry)
  obtain ⟨its, r, pl, hz⟩ := I.list hp
  refine SeqAt.notIn_listAt (inU H ks) pl.isList (fun w hw => mem_inU I ha (by have := @in1_units X.A; omega) r hk w (by simpa using hw)) ⟨.bl _, H, I, rfl, ?_⟩
  rw [show its.toArray.any (inU H ks) = its.any (inU H ks) by simp, any_inU r hk]
  exact q
end
end L2
namespace L2
open PySem PySem.W PyProof.Rows
section
variable {prog : Program} {w : World} {d : Addr} {es : Array DictEntry} {ep : Nat} {o : Obj}
end
section
variable {X : Cx}
end
end L2
namespace L2
open PySem PySem.Spec PyProof.Rows
section
variable {X : Cx}
def isK (k : Int) (v : Value) : Bool := match v with | .int a _ => a == k | _ => false
end
end L2
namespace L2
open PySem PySem.Spec PyProof.Rows PySem.MeetsSeq
section
variable {X : Cx}
end
end L2
namespace L2
open PySem PySem.Spec PyProof.Rows PySem.MeetsSeq
section
variable {X : Cx}
variable {o e : Expr} {es : List Expr} {to : TE} {t : TA} {name : Str} {apos cpos : Pos} {id : String} {r : V -> List V -> Hp -> VK -> Prop}
end
end L2
namespace HT
open PySem PySem.Spec PyProof.Rows
section
variable {prog : Program} {w : World} {A : Around} {E : Value -> Shared -> Prop} {s : Shared}
end
end HT
namespace L2
open PySem PySem.Spec PyProof.Rows
section
variable {X : Cx}
end
end L2
namespace L2
open PySem PySem.Spec PyProof.Rows
section
open PySem.SeqAt
open PySem.AutoSeq1 (wpAny_loadPart')
open PySem.MeetsSeq PySem.MeetsSeq2 PySem.MeetsSeq3
end
end L2
namespace L2
open PySem PySem.W PyProof.Rows
section
variable {prog : Program} {w : World} {A : Around} {E : Value -> Shared -> Prop} {s : Shared}
end
section
variable {X : Cx}
end
end L2
namespace L2
open PySem PySem.Spec PyProof.Rows
section
variable {env : Env} {C : Addr} {names : List (Str × NameKind)} {x : Str} {d : Addr}
end
section
variable {X : Cx} {scope : Scope} {N' : List Str} {fr : List (Option Nat)} {pins : List (Addr × Obj)} {σ : St} {H : Hp} {s : Shared} {fp : List Addr}
end
section
variable {X : Cx} {scope : Scope} {N' : List Str} {fr : List (Option Nat)} {pins : List (Addr × Obj)} {σ : St} {H : Hp} {s : Shared} {fp : List Addr} {it : Addr} {tn : Nat -> Heap -> Prop} {J : It}
  {elt tg iter : Expr} {ifs : List Expr} {g : TG} {tt : TT} {te : TE} {pos : Pos} {fin : List V -> Hp -> Prop} {W : Nat -> Nat -> List V -> St -> Hp -> Prop} {RR : Value -> Addr -> Result -> Shared -> Prop} {E : Value -> Shared -> Prop}
end
end L2
namespace L2
open PySem PySem.Spec PyProof.Rows PySem.MeetsSeq PySem.AutoSeq1
end L2
namespace L2
open PySem PySem.Spec PyProof.Rows
section
variable {X : Cx}
end
def rLenK (K : PySem.W.Frag) : List V -> Hp -> VK -> Prop := fun xs H Q => ∃ p ys, xs = [.ref p] /\ (SqL K H p ys \/ SqT K H p ys) /\ Q (.int ys.length) H
def rIsiK (K : PySem.W.Frag) : List V -> Hp -> VK -> Prop := fun xs H Q => ∃ x c t u b, xs = [x, c] /\ RelV c u /\ TyOf K H x t /\ PySem.W.kitOne K t u = some b /\ Q (.bl b) H
def rTupOfK (K : PySem.W.Frag) : List V -> Hp -> VK -> Prop := fun xs H Q => ∃ p ys, xs = [.ref p] /\ ((SqL K H p ys /\ ∀ l, H l = none -> Q (.ref l) (upd H l (.tup ys))) \/ (SqT K H p ys /\ Q (.ref p) H))
def rListOfK (K : PySem.W.Frag) : List V -> Hp -> VK -> Prop := fun xs H Q => ∃ p ys, xs = [.ref p] /\ (SqL K H p ys \/ SqT K H p ys) /\ ∀ l, H l = none -> Q (.ref l) (upd H l (.lst ys))
theorem seq_abs {A B : TS} {D : Ends} {σ : St} {H : Hp} (h : ∀ M : St -> Hp -> Prop, (∀ σ H, B D σ H -> M σ H) -> A { D with nx := M } σ H) : tSeq A B D σ H := h _ fun _ _ z => z
section
variable {X : Cx} (K : PySem.W.Frag)
theorem ix_listK (h : X.K = K := by rfl) : IxR X (rIxL K) := h ▸ ix_list
theorem ix_tupK (h : X.K = K := by rfl) : IxR X (rIxT K) := h ▸ ix_tup
theorem sl_listK (h : X.K = K := by rfl) : SlR X (rSlL K) := h ▸ sl_list
theorem call_lenK (h : X.K = K := by rfl) : CallR X (.builtin "len") (rLenK K) := h ▸ call_len_seq
theorem call_isiK (h : X.K = K := by rfl) : CallR X (.builtin "isinstance") (rIsiK K) := h ▸ call_isinst
theorem call_tuple_ofK (h : X.K = K := by rfl) : CallR X (.type "tuple") (rTupOfK K) := h ▸ call_tuple_of
theorem call_list_ofK (h : X.K = K := by rfl) : CallR X (.type "list") (rListOfK K) := h ▸ call_list_of
theorem op_neNilK (hu : X.A.units + 66 < cLine) (h : X.K = K := by rfl) : OpR X (compareOp .NotEq) (rNil K true) := h ▸ op_neNil hu
theorem op_eqSK (hu : X.A.units + 66 < cLine) (h : X.K = K := by rfl) : OpR X (compareOp .Eq) (rSame K true) := h ▸ op_eqS hu
theorem op_neSK (hu : X.A.units + 66 < cLine) (h : X.K = K := by rfl) : OpR X (compareOp .NotEq) (rSame K false) := h ▸ op_neS hu
theorem op_catAK (h : X.K = K := by rfl) : OpR X (binaryOp .Add) (rCatA K) := h ▸ op_catA
theorem pi_seqK {tg : Expr} (k : Kd) {l : Expr} {tl : TE} (hl : PE X l tl) (h : X.K = K := by rfl) : PI X tg l (iSeq k K tl) := h ▸ pi_seq k hl
theorem pg_tupK (n : Nat) {es : List Expr} {k : Nat} {t : TGs} {pos : Pos} (hc : X.calm = true) (h : PGs X es t)
    (hn : (assignEach es X.env).length = n := by rfl) (hst : (assignEach es X.env).findIdx? (·.1) = none := by rfl) (hK : X.K = K := by rfl) : PG X (.Tuple es k pos) (gTup K n t) := hK ▸ pg_tup hc h hn hst
theorem pi_enumK {elts : List Expr} {x1 : Nat} {tpos : Pos} {l : Expr} {ta : TA} {p pos : Pos} (k : Kd) (hg : Gl X "enumerate") (hm : X.mg "enumerate" = none) (ha : PA X [l] ta) (hs : starEach [l] X.env = [(false, eval l X.env)] := by rfl) (h : X.K = K := by rfl) :
    PI X (.Tuple elts x1 tpos) (.Call (.Name "enumerate" p) [l] [] pos) (iEnum k K ta) := h ▸ pi_enum k hg hm ha hs
theorem pi_zipK {elts : List Expr} {x1 : Nat} {tpos : Pos} {l m : Expr} {ta : TA} {p pos : Pos} (k1 k2 : Kd) (hg : Gl X "zip") (hm : X.mg "zip" = none) (ha : PA X [l, m] ta)
    (hs : starEach [l, m] X.env = [(false, eval l X.env), (false, eval m X.env)] := by rfl) (hs2 : starEach [m] X.env = [(false, eval m X.env)] := by rfl) (h : X.K = K := by rfl) :
    PI X (.Tuple elts x1 tpos) (.Call (.Name "zip" p) [l, m] [] pos) (iZip k1 k2 K ta) := h ▸ pi_zip k1 k2 hg hm ha hs hs2
end
section
variable {X : Cx}
end
section
variable {X : Cx}
end
section
variable {X : Cx} {m : Str} {apos pos : Pos} {o : Expr} {ta : TE}
end
section
variable {X : Cx}
end
section
variable {X : Cx}
end
end L2
namespace L2
open PySem PySem.W PyProof.Rows
section
variable {X : Cx}
end
end L2
namespace L2
open PySem PySem.W PyProof.Rows
section
variable {prog : Program} {w : World} {A : Around} {E : Value -> Shared -> Prop} {s : Shared}
end
end L2
namespace L2
open PySem PySem.W PyProof.Rows
section
variable {X : Cx}
theorem all_same {α : Type} [DecidableEq α] (d : α) {l m : List α} {n k : Nat} (hn : n = l.length) (hk : k = m.length) : ((List.range (min n k)).all (fun i => decide (l.getD i d = m.getD i d)) && n == k) = decide (l = m) := by
  subst hn hk
  rw [Bool.eq_iff_iff, Bool.and_eq_true, List.all_eq_true, beq_iff_eq, decide_eq_true_iff]
  constructor
  · rintro ⟨h, e⟩
    refine List.ext_getElem e fun i h1 h2 => ?_
    have := of_decide_eq_true (h i (List.mem_range.mpr (by lia)))
    simpa [h1, h2] using this
  · rintro rfl
    exact ⟨fun i _ => decide_eq_true rfl, rfl⟩
theorem eqV_int (i j : Int) : eqV (.int i) (.int j) = decide (i = j) := by
  unfold eqV
  rw [Bool.eq_iff_iff, beq_iff_eq, decide_eq_true_iff]
end
end L2
namespace L2
open PySem PySem.W PyProof.Rows
section
variable {X : Cx} {pos : Pos}
end
end L2
namespace L2
open PySem PySem.SetTable
abbrev Ris (l : List Nat) : Prop := l.Pairwise (· < ·)
theorem ris_lt {xs : Array Nat} (hr : Ris xs.toList) {a b : Nat} (hb : b < xs.size) (h : a < b) : xs.getD a 0 < xs.getD b 0 := by
  have := List.pairwise_iff_getElem.mp hr a b (by simpa using Nat.lt_trans h hb) (by simpa using hb) h
  have ha : a < xs.size := Nat.lt_trans h hb
  simpa [Array.getD, ha, hb] using this
theorem below_go (xs : Array Nat) (j : Nat) (hr : Ris xs.toList) : ∀ (f lo hi : Nat), hi <= xs.size -> lo <= hi -> hi - lo <= f -> (∀ k, k < lo -> xs.getD k 0 < j) -> (∀ k, k < xs.size -> hi <= k -> j <= xs.getD k 0) ->
    below.go xs j f lo hi <= xs.size /\ (∀ k, k < below.go xs j f lo hi -> xs.getD k 0 < j) /\ ∀ k, k < xs.size -> below.go xs j f lo hi <= k -> j <= xs.getD k 0
  | 0, lo, hi, h1, h2, h3, hl, hh => by
    have : lo = hi := by lia
    subst this
    exact ⟨h1, hl, hh⟩
  | f + 1, lo, hi, h1, h2, h3, hl, hh => by
    unfold below.go
    by_cases c : lo < hi
    · rw [if_pos c]
      dsimp only
      have m1 : (lo + hi) / 2 < hi := by lia
      have m0 : lo <= (lo + hi) / 2 := by lia
      have ms : (lo + hi) / 2 < xs.size := by lia
      have eg : xs.getD ((lo + hi) / 2) j = xs.getD ((lo + hi) / 2) 0 := by simp [Array.getD, ms]
      rw [eg]
      generalize (lo + hi) / 2 = mid at m1 m0 ms
      by_cases c2 : xs.getD mid 0 < j
      · rw [if_pos c2]
        refine below_go xs j hr f (mid + 1) hi h1 (by lia) (by lia) (fun k hk => ?_) hh
        by_cases e : k = mid
        · rw [e]; exact c2
        · exact Nat.lt_trans (ris_lt hr ms (by lia)) c2
      · rw [if_neg c2]
        refine below_go xs j hr f lo mid (by lia) m0 (by lia) hl (fun k hk hm => ?_)
        by_cases e : k = mid
        · rw [e]; lia
        · exact Nat.le_trans (by lia) (Nat.le_of_lt (ris_lt hr hk (show mid < k by lia)))
    · rw [if_neg c]
      have : lo = hi := by lia
      subst this
      exact ⟨h1, hl, hh⟩
theorem below_is {xs : Array Nat} (hr : Ris xs.toList) (j : Nat) : below xs j <= xs.size /\ (∀ x ∈ xs.toList.take (below xs j), x < j) /\ ∀ x ∈ xs.toList.drop (below xs j), j <= x := by
  obtain ⟨a, b, c⟩ := below_go xs j hr xs.size 0 xs.size (Nat.le_refl _) (Nat.zero_le _) (by lia) (fun k hk => absurd hk (Nat.not_lt_zero k)) (fun k h1 h2 => absurd h1 (by lia))
  refine ⟨a, fun x hx => ?_, fun x hx => ?_⟩
  · obtain ⟨k, hk, rfl⟩ := List.mem_take_iff_getElem.mp hx
    have h1 : k < xs.size := by have := xs.length_toList; lia
    have := b k (by have h2 : k < min (below xs j) xs.toList.length := hk; exact Nat.lt_of_lt_of_le h2 (Nat.min_le_left _ _))
    simpa [Array.getD, h1] using this
  · obtain ⟨k, hk, rfl⟩ := List.mem_drop_iff_getElem.mp hx
    have h1 : below xs j + k < xs.size := by have := xs.length_toList; lia
    have := c (below xs j + k) h1 (Nat.le_add_right _ _)
    simpa [Array.getD, h1] using this
theorem below_at {xs : Array Nat} (hr : Ris xs.toList) {j : Nat} (h : j ∈ xs.toList) : xs[below xs j]? = some j := by
  obtain ⟨a, b, c⟩ := below_is hr j
  rw [<- Array.getElem?_toList]
  have e := List.take_append_drop (below xs j) xs.toList
  have hd : j ∈ xs.toList.drop (below xs j) := by
    rw [<- e] at h
    rcases List.mem_append.mp h with h | h
    · exact absurd (b j h) (Nat.lt_irrefl j)
    · exact h
  have hr2 : Ris (xs.toList.drop (below xs j)) := hr.sublist (List.drop_sublist _ _)
  rw [<- List.head?_drop]
  generalize xs.toList.drop (below xs j) = l at hd hr2 c
  cases l with
  | nil => exact nomatch hd
  | cons y r =>
    rcases List.mem_cons.mp hd with z | z
    · rw [z]; rfl
    · have := (List.pairwise_cons.mp hr2).1 j z
      have := c y List.mem_cons_self
      lia
theorem has_nil (j : Nat) : has #[] j = false := by
  unfold has
  rw [Array.getElem?_eq_none (by simp)]
  rfl
theorem slot_live {t : SetTable} (hr : Ris t.place.toList) {j : Nat} (h : j ∈ t.place.toList) : t.slot j = .live (below t.place j) /\ t.place[below t.place j]? = some j := by
  have e := below_at hr h
  refine ⟨?_, e⟩
  unfold slot
  dsimp only
  rw [e, if_pos (by simp)]
theorem slot_empty {t : SetTable} (hd : t.dummies = #[]) {j : Nat} (h : j ∉ t.place.toList) : t.slot j = .empty := by
  unfold slot
  dsimp only
  rw [if_neg, hd, has_nil, if_neg (by simp)]
  intro z
  have := eq_of_beq z
  rw [<- Array.getElem?_toList] at this
  exact h (List.mem_of_getElem? this)
def adv (m : Nat) (p : Probe) : Probe :=
  if p.more > 0 then { p with j := p.j + 1, more := p.more - 1 } else
  let (i, perturb) := leap m p.i p.perturb
  { p with j := i, more := runEnd m i - i, i, perturb }
def wstart (m : Nat) (h : Int) : Probe := { j := bits h % (m + 1), more := runEnd m (bits h % (m + 1)) - bits h % (m + 1), i := bits h % (m + 1), perturb := bits h, dummy := none }
def way (m : Nat) (h : Int) : Nat -> Probe
  | 0 => wstart m h
  | n + 1 => adv m (way m h n)
theorem way_no (m : Nat) (h : Int) : ∀ n, (way m h n).dummy = none
  | 0 => rfl
  | n + 1 => by
    show (adv m (way m h n)).dummy = none
    unfold adv
    split
    · exact way_no m h n
    · exact way_no m h n
def runs (m : Nat) (h : Int) : Nat -> Nat × Nat
  | 0 => (bits h % (m + 1), bits h)
  | k + 1 => leap m (runs m h k).1 (runs m h k).2
theorem run_walk (m : Nat) (h : Int) : ∀ (d n j i p : Nat), way m h n = ⟨j, d, i, p, none⟩ -> ∀ e, e <= d -> way m h (n + e) = ⟨j + e, d - e, i, p, none⟩
  | d, n, j, i, p, hw, 0, _ => hw
  | d, n, j, i, p, hw, e + 1, he => by
    have := run_walk m h d n j i p hw e (by lia)
    show adv m (way m h (n + e)) = _
    rw [this]
    unfold adv
    rw [if_pos (by show d - e > 0; lia)]
    dsimp only
    rw [show d - e - 1 = d - (e + 1) by lia]
    rfl
theorem runEnd_le (m i : Nat) : runEnd m i - i <= 9 := by unfold runEnd; split <;> lia
theorem run_at (m : Nat) (h : Int) : ∀ k, ∃ n, n <= 10 * k /\ way m h n = ⟨(runs m h k).1, runEnd m (runs m h k).1 - (runs m h k).1, (runs m h k).1, (runs m h k).2, none⟩
  | 0 => ⟨0, Nat.le_refl _, rfl⟩
  | k + 1 => by
    obtain ⟨n, hn, e⟩ := run_at m h k
    have le := runEnd_le m (runs m h k).1
    have w := run_walk m h _ n _ _ _ e _ (Nat.le_refl _)
    refine ⟨n + (runEnd m (runs m h k).1 - (runs m h k).1) + 1, by lia, ?_⟩
    show adv m (way m h (n + _)) = _
    rw [w]
    unfold adv
    rw [if_neg (by show ¬ (_ - _ > 0); lia)]
    rfl
theorem bits_lt (h : Int) : bits h < 2 ^ 64 := by
  unfold bits
  have a := Int.emod_lt_of_pos h (show (0 : Int) < 2 ^ 64 by decide)
  have b := Int.emod_nonneg h (show (2 ^ 64 : Int) ≠ 0 by decide)
  lia
theorem runs_snd (m : Nat) (h : Int) : ∀ k, (runs m h k).2 = bits h / 32 ^ k
  | 0 => by simp [runs]
  | k + 1 => by
    show (runs m h k).2 / 32 = _
    rw [runs_snd m h k, Nat.div_div_eq_div_mul, Nat.pow_succ]
theorem runs_late (m : Nat) (h : Int) (k : Nat) (hk : 13 <= k) : (runs m h k).2 = 0 := by
  rw [runs_snd]
  refine Nat.div_eq_of_lt (Nat.lt_of_lt_of_le (bits_lt h) ?_)
  exact Nat.le_trans (by decide) (Nat.pow_le_pow_right (by decide) hk)
def nx (m i : Nat) : Nat := (i * 5 + 1) % (m + 1)
def nxs (m s : Nat) : Nat -> Nat
  | 0 => s
  | k + 1 => nx m (nxs m s k)
theorem nxs_add (m s a : Nat) : ∀ b, nxs m s (a + b) = nxs m (nxs m s a) b
  | 0 => rfl
  | b + 1 => by show nx m (nxs m s (a + b)) = nx m (nxs m (nxs m s a) b); rw [nxs_add m s a b]
theorem runs_nx (m : Nat) (h : Int) : ∀ k, (runs m h (13 + k)).1 = nxs m (runs m h 13).1 k
  | 0 => rfl
  | k + 1 => by
    show (leap m (runs m h (13 + k)).1 (runs m h (13 + k)).2).1 = nx m (nxs m (runs m h 13).1 k)
    rw [<- runs_nx m h k, runs_late m h (13 + k) (by lia)]
    rfl
def orb (m : Nat) : Nat -> Nat -> List Nat
  | 0, _ => []
  | k + 1, s => s :: orb m k (nx m s)
theorem orb_at (m : Nat) : ∀ (k s j : Nat), j ∈ orb m k s -> ∃ e, e < k /\ nxs m s e = j
  | 0, _, _, h => nomatch h
  | k + 1, s, j, h => by
    rcases List.mem_cons.mp h with z | z
    · exact ⟨0, by lia, z.symm⟩
    · obtain ⟨e, he, q⟩ := orb_at m k (nx m s) j z
      refine ⟨e + 1, by lia, ?_⟩
      rw [Nat.add_comm, nxs_add]
      exact q
def Full (m : Nat) : Prop := m % 2 = 1 /\ nxs m 0 (m + 1) = 0 /\ ∀ j, j <= m -> ∃ e, e <= m /\ nxs m 0 e = j
theorem full_of {m : Nat} (h0 : m % 2 = 1) (h1 : nxs m 0 (m + 1) = 0) (h2 : ((List.range (m + 1)).all fun j => (orb m (m + 1) 0).contains j) = true) : Full m := by
  refine ⟨h0, h1, fun j hj => ?_⟩
  have := List.all_eq_true.mp h2 j (List.mem_range.mpr (by lia))
  obtain ⟨e, he, q⟩ := orb_at m (m + 1) 0 j (List.contains_iff_mem.mp this)
  exact ⟨e, by lia, q⟩
theorem full7 : Full 7 := full_of rfl (by decide +kernel) (by decide +kernel)
theorem full31 : Full 31 := full_of rfl (by decide +kernel) (by decide +kernel)
theorem full127 : Full 127 := full_of rfl (by decide +kernel) (by decide +kernel)
theorem full511 : Full 511 := full_of rfl (by decide +kernel) (by decide +kernel)
theorem runs_le (m : Nat) (h : Int) : ∀ k, (runs m h k).1 <= m
  | 0 => Nat.le_of_lt_succ (Nat.mod_lt _ (Nat.succ_pos m))
  | k + 1 => Nat.le_of_lt_succ (Nat.mod_lt _ (Nat.succ_pos m))
theorem runs_all {m : Nat} (F : Full m) (h : Int) (j : Nat) (hj : j <= m) : ∃ k, k <= m + 14 /\ (runs m h k).1 = j := by
  obtain ⟨_, z, al⟩ := F
  obtain ⟨a, ha, ea⟩ := al (runs m h 13).1 (runs_le m h 13)
  obtain ⟨b, hb, eb⟩ := al j hj
  by_cases c : a <= b
  · refine ⟨13 + (b - a), by lia, ?_⟩
    rw [runs_nx, <- ea, <- nxs_add, show a + (b - a) = b by lia, eb]
  · refine ⟨13 + (m + 1 + b - a), by lia, ?_⟩
    rw [runs_nx, <- ea, <- nxs_add, show a + (m + 1 + b - a) = m + 1 + b by lia, nxs_add, z, eb]
theorem way_all {m : Nat} (F : Full m) (h : Int) (j : Nat) (hj : j <= m) : ∃ n, n <= 10 * (m + 14) /\ (way m h n).j = j := by
  obtain ⟨k, hk, e⟩ := runs_all F h j hj
  obtain ⟨n, hn, w⟩ := run_at m h k
  exact ⟨n, by lia, by rw [w]; exact e⟩
theorem least (P : Nat -> Prop) : ∀ n, P n -> ∃ k, k <= n /\ P k /\ ∀ i, i < k -> ¬ P i := fun n => by
  induction n using Nat.strongRecOn with
  | _ n ih =>
    intro h
    by_cases c : ∃ i, i < n /\ P i
    · obtain ⟨i, hi, q⟩ := c
      obtain ⟨k, hk, r⟩ := ih i hi q
      exact ⟨k, by lia, r⟩
    · exact ⟨n, Nat.le_refl _, h, fun i hi z => c ⟨i, hi, z⟩⟩
theorem pigeon : ∀ (n : Nat) (l : List Nat), (∀ j, j < n -> j ∈ l) -> n <= l.length
  | 0, _, _ => Nat.zero_le _
  | n + 1, l, h => by
    have hn := h n (Nat.lt_succ_self n)
    have := pigeon n (l.erase n) fun j hj => (List.mem_erase_of_ne (Nat.ne_of_lt hj)).mpr (h j (Nat.lt_succ_of_lt hj))
    have e := List.length_erase_of_mem hn
    have : 0 < l.length := List.length_pos_of_mem hn
    lia
theorem first_free {m : Nat} (F : Full m) (h : Int) {l : List Nat} (hl : l.length <= m) : ∃ N, N <= 10 * (m + 14) /\ (way m h N).j ∉ l /\ ∀ k, k < N -> (way m h k).j ∈ l := by
  have ex : ∃ j, j <= m /\ j ∉ l := by
    refine Classical.byContradiction fun hn => ?_
    have := pigeon (m + 1) l fun j hj => Classical.byContradiction fun z => hn ⟨j, by lia, z⟩
    lia
  obtain ⟨j, hj, nj⟩ := ex
  obtain ⟨n, hn, e⟩ := way_all F h j hj
  obtain ⟨N, h1, h2, h3⟩ := least (fun k => (way m h k).j ∉ l) n (by rw [e]; exact nj)
  exact ⟨N, by lia, h2, fun k hk => Classical.byContradiction fun z => h3 k hk z⟩
theorem way_le {m : Nat} (h : Int) : ∀ n, (way m h n).j + (way m h n).more <= m /\ (way m h n).i <= m
  | 0 => by
    show bits h % (m + 1) + (runEnd m (bits h % (m + 1)) - bits h % (m + 1)) <= m /\ bits h % (m + 1) <= m
    have := Nat.mod_lt (bits h) (Nat.succ_pos m)
    unfold runEnd
    constructor
    · split <;> lia
    · lia
  | n + 1 => by
    obtain ⟨a, b⟩ := way_le (m := m) h n
    show (adv m (way m h n)).j + (adv m (way m h n)).more <= m /\ (adv m (way m h n)).i <= m
    unfold adv
    split
    · dsimp only
      constructor
      · lia
      · exact b
    · have := Nat.mod_lt ((way m h n).i * 5 + 1 + (way m h n).perturb / 32) (Nat.succ_pos m)
      unfold leap
      dsimp only
      unfold runEnd
      constructor
      · split <;> lia
      · lia
def Reach (m : Nat) (l : List Nat) (h : Int) (j : Nat) : Prop := ∃ n, (way m h n).j = j /\ ∀ k, k < n -> (way m h k).j ∈ l
theorem Reach.more {m : Nat} {l l' : List Nat} {h : Int} {j : Nat} (r : Reach m l h j) (s : ∀ x ∈ l, x ∈ l') : Reach m l' h j := by
  obtain ⟨n, e, a⟩ := r
  exact ⟨n, e, fun k hk => s _ (a k hk)⟩
end L2
namespace L2
open PySem PySem.SetTable
def lv (m : Nat) (o : Array (Option Nat)) : List (Nat × Nat) := (List.range (m + 1)).filterMap fun j => (o.getD j none).map (j, ·)
theorem lv_mem {m : Nat} {o : Array (Option Nat)} {j e : Nat} : (j, e) ∈ lv m o ↔ j <= m /\ o.getD j none = some e := by
  unfold lv
  rw [List.mem_filterMap]
  constructor
  · rintro ⟨i, hi, q⟩
    cases h : o.getD i none with
    | none => rw [h] at q; cases q
    | some e' =>
      rw [h] at q
      have : (i, e') = (j, e) := Option.some.inj q
      injection this with a b
      subst a b
      exact ⟨Nat.le_of_lt_succ (List.mem_range.mp hi), h⟩
  · rintro ⟨h1, h2⟩
    exact ⟨j, List.mem_range.mpr (Nat.lt_succ_of_le h1), by rw [h2]; rfl⟩
theorem lv_fst {m : Nat} {o : Array (Option Nat)} {j : Nat} : j ∈ (lv m o).map (·.1) ↔ j <= m /\ (o.getD j none).isSome = true := by
  rw [List.mem_map]
  constructor
  · rintro ⟨⟨a, e⟩, h, rfl⟩
    obtain ⟨h1, h2⟩ := lv_mem.mp h
    exact ⟨h1, by rw [h2]; rfl⟩
  · rintro ⟨h1, h2⟩
    obtain ⟨e, he⟩ := Option.isSome_iff_exists.mp h2
    exact ⟨(j, e), lv_mem.mpr ⟨h1, he⟩, rfl⟩
theorem lv_ris (m : Nat) (o : Array (Option Nat)) : Ris ((lv m o).map (·.1)) := by
  unfold lv
  rw [List.map_filterMap]
  refine List.Pairwise.filterMap _ ?_ (List.pairwise_lt_range (n := m + 1))
  intro a a' h b hb b' hb'
  have ea : ∀ {i c : Nat}, ((o.getD i none).map (i, ·)).map (·.1) = some c -> c = i := fun {i c} z => by
    cases q : o.getD i none with
    | none => rw [q] at z; cases z
    | some e => rw [q] at z; exact (Option.some.inj z).symm
  rw [ea hb, ea hb']
  exact h
theorem lv_set {m : Nat} {o : Array (Option Nat)} {j k : Nat} (hs : o.size = m + 1) (hj : j <= m) (hn : o.getD j none = none) : (lv m (o.setIfInBounds j (some k))).Perm ((j, k) :: lv m o) := by
  have nd : ∀ o : Array (Option Nat), (lv m o).Nodup := fun o => by
    have := lv_ris m o
    have h2 : ((lv m o).map (·.1)).Nodup := this.imp fun h => Nat.ne_of_lt h
    exact (List.pairwise_map.mp h2).imp fun h e => h (by rw [e])
  refine (List.perm_ext_iff_of_nodup (nd _) (List.nodup_cons.mpr ⟨fun z => ?_, nd o⟩)).mpr ?_
  · rw [lv_mem, hn] at z
    exact nomatch z.2
  · rintro ⟨a, e⟩
    rw [List.mem_cons, lv_mem, lv_mem]
    have eg : (o.setIfInBounds j (some k)).getD a none = if a = j then some k else o.getD a none := by
      by_cases c : a = j
      · rw [if_pos c, c]
        simp [Array.getD, hs, Nat.lt_succ_of_le hj]
      · rw [if_neg c]
        by_cases c2 : a < o.size
        · simp [Array.getD, c2, Array.getElem_setIfInBounds, Ne.symm c]
        · simp [Array.getD, c2]
    rw [eg]
    by_cases c : a = j
    · rw [if_pos c]
      subst c
      constructor
      · rintro ⟨_, z⟩
        left
        rw [Option.some.inj z]
      · rintro (z | ⟨_, z⟩)
        · injection z with _ z
          exact ⟨hj, by rw [z]⟩
        · rw [hn] at z; cases z
    · rw [if_neg c]
      constructor
      · intro z; exact .inr z
      · rintro (z | z)
        · injection z with z _; exact absurd z c
        · exact z
theorem free_ok {m : Nat} {h : Int} {o : Array (Option Nat)} (hs : o.size = m + 1) : ∀ (f r n : Nat), way m h n = ⟨(runs m h r).1, runEnd m (runs m h r).1 - (runs m h r).1, (runs m h r).1, (runs m h r).2, none⟩ -> (∀ k, k < n -> (way m h k).j ∈ (lv m o).map (·.1)) ->
    (∃ r', r <= r' /\ r' < r + f /\ (runs m h r').1 ∉ (lv m o).map (·.1)) -> ∃ N, layClean.free m o f (runs m h r).1 (runs m h r).2 = some (way m h N).j /\ (way m h N).j ∉ (lv m o).map (·.1) /\ ∀ k, k < N -> (way m h k).j ∈ (lv m o).map (·.1)
  | 0, r, n, _, _, ⟨r', a, b, _⟩ => by lia
  | f + 1, r, n, hw, hk, ⟨r', a, b, c⟩ => by
    have bound : ∀ k, k < runEnd m (runs m h r).1 + 1 - (runs m h r).1 -> (way m h (n + k)).j = (runs m h r).1 + k /\ (runs m h r).1 + k <= m := fun k hk' => by
      have := run_walk m h _ n _ _ _ hw k (by lia)
      have e := way_le (m := m) h (n + k)
      rw [this] at e ⊢
      exact ⟨rfl, by have := e.1; dsimp only at this; lia⟩
    have tk : ∀ j, j <= m -> ((o.getD j (some 0)).isNone = false ↔ j ∈ (lv m o).map (·.1)) := fun j hj => by
      rw [lv_fst]
      have lt : j < o.size := by lia
      have e : o.getD j (some 0) = o.getD j none := by simp [Array.getD, lt]
      rw [e]
      cases o.getD j none with
      | none => simp
      | some z => simp [hj]
    unfold layClean.free
    cases hf : (List.range (runEnd m (runs m h r).1 + 1 - (runs m h r).1)).find? fun k => (o.getD ((runs m h r).1 + k) (some 0)).isNone with
    | some k =>
      obtain ⟨p1, p2, p3⟩ := List.find?_range_eq_some.mp hf
      obtain ⟨b1, b2⟩ := bound k (List.mem_range.mp p2)
      refine ⟨n + k, by rw [b1], ?_, fun i hi => ?_⟩
      · rw [b1, <- tk _ b2, p1]
        exact Bool.noConfusion
      · by_cases ci : i < n
        · exact hk i ci
        · have := p3 (i - n) (by lia)
          obtain ⟨c1, c2⟩ := bound (i - n) (by have := List.mem_range.mp p2; lia)
          rw [show n + (i - n) = i by lia] at c1
          rw [c1, <- tk _ c2]
          simpa using this
    | none =>
      have hn := List.find?_range_eq_none.mp hf
      have le0 : (runs m h r).1 <= runEnd m (runs m h r).1 := by unfold runEnd; split <;> lia
      have w := run_walk m h _ n _ _ _ hw _ (Nat.le_refl _)
      have ne : r ≠ r' := fun z => by
        subst z
        have h0 := hn 0 (by lia)
        refine c ((tk _ (runs_le m h r)).mp ?_)
        simpa using h0
      have := free_ok hs f (r + 1) (n + (runEnd m (runs m h r).1 - (runs m h r).1) + 1) (by
        show adv m (way m h (n + _)) = _
        rw [w]
        unfold adv
        rw [if_neg (by show ¬ (_ - _ > 0); lia)]
        rfl) (fun k hk' => by
          by_cases ci : k < n
          · exact hk k ci
          · have h0 := hn (k - n) (by lia)
            obtain ⟨c1, c2⟩ := bound (k - n) (by lia)
            rw [show n + (k - n) = k by lia] at c1
            rw [c1, <- tk _ c2]
            simpa using h0) ⟨r', by lia, by lia, c⟩
      exact this
structure Laid (m : Nat) (hs : List Int) (o : Array (Option Nat)) : Prop where
  sz : o.size = m + 1
  all : ((lv m o).map (·.2)).Perm (List.range hs.length)
  reach : ∀ q ∈ lv m o, Reach m ((lv m o).map (·.1)) (hs.getD q.2 0) q.1
theorem lay_step {m : Nat} (F : Full m) {hs : List Int} {o : Array (Option Nat)} (L : Laid m hs o) (hl : hs.length <= m) (h : Int) : ∃ j, layClean.free m o (turns m) (bits h % (m + 1)) (bits h) = some j /\ Laid m (hs ++ [h]) (o.setIfInBounds j (some hs.length)) := by
  have ll : ((lv m o).map (·.1)).length = hs.length := by
    have := L.all.length_eq
    rw [List.length_map, List.length_range] at this
    rw [List.length_map, this]
  have ex : ∃ j, j <= m /\ j ∉ (lv m o).map (·.1) := by
    refine Classical.byContradiction fun hn => ?_
    have := pigeon (m + 1) ((lv m o).map (·.1)) fun j hj => Classical.byContradiction fun z => hn ⟨j, by lia, z⟩
    lia
  obtain ⟨j0, h0, n0⟩ := ex
  obtain ⟨k, hk, e⟩ := runs_all F h j0 h0
  obtain ⟨N, f1, f2, f3⟩ := free_ok L.sz (h := h) (turns m) 0 0 rfl (fun k hk => absurd hk (Nat.not_lt_zero k)) ⟨k, Nat.zero_le _, by unfold turns; lia, by rw [e]; exact n0⟩
  refine ⟨(way m h N).j, f1, ?_⟩
  have le : (way m h N).j <= m := by have := (way_le (m := m) h N).1; lia
  have nn : o.getD (way m h N).j none = none := by
    cases q : o.getD (way m h N).j none with
    | none => rfl
    | some e => exact absurd (lv_fst.mpr ⟨le, by rw [q]; rfl⟩) f2
  have pm := lv_set (k := hs.length) L.sz le nn
  have sub : ∀ x ∈ (lv m o).map (·.1), x ∈ (lv m (o.setIfInBounds (way m h N).j (some hs.length))).map (·.1) := fun x hx => (pm.map (·.1)).mem_iff.mpr (List.mem_cons_of_mem _ hx)
  refine ⟨by rw [Array.size_setIfInBounds]; exact L.sz, ?_, fun q hq => ?_⟩
  · refine (pm.map (·.2)).trans ?_
    rw [List.length_append, List.length_singleton, List.range_succ]
    exact (List.Perm.cons _ L.all).trans (List.perm_append_comm (l₁ := [hs.length]))
  · rcases List.mem_cons.mp (pm.mem_iff.mp hq) with z | z
    · subst z
      dsimp only
      have : (hs ++ [h]).getD hs.length 0 = h := by simp
      rw [this]
      exact ⟨N, rfl, fun k hk => sub _ (f3 k hk)⟩
    · have lt : q.2 < hs.length := by
        have := L.all.mem_iff.mp (List.mem_map_of_mem (f := (·.2)) z)
        exact List.mem_range.mp this
      have : (hs ++ [h]).getD q.2 0 = hs.getD q.2 0 := by simp [List.getElem?_append_left lt]
      rw [this]
      exact (L.reach q z).more sub
theorem lay_all {m : Nat} (F : Full m) : ∀ (rest hs : List Int) (o : Array (Option Nat)), Laid m hs o -> hs.length + rest.length <= m + 1 -> ∃ o', rest.foldl (init := some (o, hs.length)) (fun acc h => do
    let (owner, k) <- acc
    let j <- layClean.free m owner (turns m) (bits h % (m + 1)) (bits h)
    pure (owner.setIfInBounds j (some k), k + 1)) = some (o', hs.length + rest.length) /\ Laid m (hs ++ rest) o'
  | [], hs, o, L, _ => ⟨o, rfl, by rw [List.append_nil]; exact L⟩
  | h :: rest, hs, o, L, le => by
    rw [List.length_cons] at le
    obtain ⟨j, f, L2⟩ := lay_step F L (by lia) h
    obtain ⟨o', e, L3⟩ := lay_all F rest (hs ++ [h]) _ L2 (by rw [List.length_append, List.length_singleton]; lia)
    refine ⟨o', ?_, by rw [List.append_assoc] at L3; exact L3⟩
    rw [List.foldl_cons]
    show List.foldl _ (do let j <- layClean.free m o (turns m) (bits h % (m + 1)) (bits h); pure (o.setIfInBounds j (some hs.length), hs.length + 1)) rest = _
    rw [f]
    rw [List.length_append, List.length_singleton] at e
    rw [List.length_cons, show hs.length + (rest.length + 1) = hs.length + 1 + rest.length by lia]
    exact e
theorem laid_nil (m : Nat) : Laid m [] (Array.replicate (m + 1) none) := by
  have e : lv m (Array.replicate (m + 1) none) = [] := by
    refine List.eq_nil_iff_forall_not_mem.mpr fun q hq => ?_
    obtain ⟨_, z⟩ := lv_mem.mp hq
    have : (Array.replicate (m + 1) (none : Option Nat)).getD q.1 none = none := by
      by_cases c : q.1 < m + 1
      · simp [Array.getD, c]
      · simp [Array.getD, c]
    rw [this] at z
    cases z
  refine ⟨by simp, by rw [e]; exact .refl _, fun q hq => ?_⟩
  rw [e] at hq
  exact nomatch hq
theorem laid_ok {m : Nat} (F : Full m) (finger moves : Nat) (led plain : Bool) (hashes : Array Int) (hl : hashes.size <= m + 1) : ∃ l : List (Nat × Nat), SetTable.laid m finger moves led plain hashes = some ({ mask := m, place := (l.map (·.1)).toArray, dummies := #[], finger, led, moves, plain }, (l.map (·.2)).toArray) /\
    Ris (l.map (·.1)) /\ (l.map (·.2)).Perm (List.range hashes.size) /\ ∀ q ∈ l, Reach m (l.map (·.1)) (hashes.toList.getD q.2 0) q.1 := by
  obtain ⟨o, e, L⟩ := lay_all F hashes.toList [] _ (laid_nil m) (by simpa using hl)
  rw [List.nil_append] at L
  refine ⟨lv m o, ?_, lv_ris m o, by simpa using L.all, L.reach⟩
  unfold SetTable.laid layClean
  rw [<- Array.foldl_toList]
  rw [List.length_nil, Nat.zero_add] at e
  rw [e]
  rfl
end L2
namespace L2
open PySem PySem.SetTable
structure SetI (t : SetTable) (es : Array (Int × Value)) : Prop where
  msk : t.mask = 7 \/ t.mask = 31 \/ t.mask = 127 \/ t.mask = 511
  dum : t.dummies = #[]
  ris : Ris t.place.toList
  len : t.place.size = es.size
  few : es.size * 5 < t.mask * 3
  reach : ∀ q ∈ t.place.toList.zip es.toList, Reach t.mask t.place.toList q.2.1 q.1
  plain : t.plain = true
theorem SetI.full {t : SetTable} {es : Array (Int × Value)} (T : SetI t es) : Full t.mask := by
  rcases T.msk with e | e | e | e <;> rw [e]
  · exact full7
  · exact full31
  · exact full127
  · exact full511
theorem fits_of {t : SetTable} {n : Nat} (h1 : t.place.size = n) (h2 : t.dummies = #[]) (h3 : n <= t.mask) : t.fits n = true := by
  unfold SetTable.fits SetTable.fill
  rw [h1, h2]
  simp [h3]
theorem SetI.fits {t : SetTable} {es : Array (Int × Value)} (T : SetI t es) : t.fits es.size = true := fits_of T.len T.dum (by have := T.few; lia)
theorem SetI.fresh (f m : Nat) (led : Bool) : SetI (.fresh f m led) #[] := ⟨.inl rfl, rfl, .nil, rfl, by show 0 * 5 < 7 * 3; decide, (fun q hq => nomatch hq), rfl⟩
theorem probe_go {t : SetTable} (hd : t.dummies = #[]) (hr : Ris t.place.toList) (ha : Nat -> Int) (h : Int) {N : Nat} (hN : (way t.mask h N).j ∉ t.place.toList) (hk : ∀ k, k < N -> (way t.mask h k).j ∈ t.place.toList) :
    ∀ (f n : Nat), n <= N -> N - n < f ->
      (∃ k i, n <= k /\ k < N /\ t.place[i]? = some (way t.mask h k).j /\ t.slot (way t.mask h k).j = .live i /\ ha i = h /\ probe.go t ha h f (way t.mask h n) = some (.candidate (way t.mask h k).j i (way t.mask h (k + 1))) /\
        ∀ m, n <= m -> m < k -> ∀ i, t.place[i]? = some (way t.mask h m).j -> i < t.place.size -> ha (below t.place (way t.mask h m).j) ≠ h) \/
      (probe.go t ha h f (way t.mask h n) = some (.empty (way t.mask h N).j none) /\ ∀ m, n <= m -> m < N -> ha (below t.place (way t.mask h m).j) ≠ h)
  | 0, n, _, h2 => by lia
  | f + 1, n, h1, h2 => by
    unfold probe.go
    by_cases c : n = N
    · subst c
      rw [slot_empty hd hN]
      exact .inr ⟨by rw [way_no], fun m a b => by lia⟩
    · obtain ⟨sl, pl⟩ := slot_live hr (hk n (by lia))
      rw [sl]
      dsimp only
      by_cases e : ha (below t.place (way t.mask h n).j) = h
      · rw [if_pos (by rw [e]; exact beq_self_eq_true h)]
        exact .inl ⟨n, _, Nat.le_refl _, by lia, pl, sl, e, rfl, fun m a b => by lia⟩
      · rw [if_neg (by simpa using e)]
        show (∃ k i, _ /\ _ /\ _ /\ _ /\ _ /\ probe.go t ha h f (way t.mask h (n + 1)) = _ /\ _) \/ (probe.go t ha h f (way t.mask h (n + 1)) = _ /\ _)
        rcases probe_go hd hr ha h hN hk f (n + 1) (by lia) (by lia) with ⟨k, i, a1, a2, a3, a4, a5, a6, a7⟩ | ⟨a1, a2⟩
        · refine .inl ⟨k, i, by lia, a2, a3, a4, a5, a6, fun m b1 b2 => ?_⟩
          by_cases e2 : m = n
          · subst e2; exact fun _ _ _ => e
          · exact a7 m (by lia) b2
        · refine .inr ⟨a1, fun m b1 b2 => ?_⟩
          by_cases e2 : m = n
          · subst e2; exact e
          · exact a2 m (by lia) b2
section
variable {prog : Program} {w : World} {A : Around} {E : Value -> Shared -> Prop} {s : Shared}
abbrev TK (prog : Program) (w : World) (h : Heap) (ks : List Int) (a : Addr) : Prop := IsTupleKey (intKind prog w) h ks a
theorem int_items {ks : List Int} {vs : List Value} (h : ItemsAre (intKind prog w) ks vs) : ∀ v ∈ vs, ∃ i t, v = .int i t := by
  induction h with
  | nil => intro v hv; exact nomatch hv
  | @cons k v' ks vs h1 _ ih =>
    intro v hv
    rcases List.mem_cons.mp hv with rfl | hv
    · cases v with
      | int i t => exact ⟨i, t, rfl⟩
      | _ => exact absurd h1 (by simp [intKind, Value.isInt])
    · exact ih v hv
theorem class_no {ks : List Int} {a : Addr} {Q : Bool -> Shared -> Prop} (hk : TK prog w s.heap ks a) (h : Q false s) : wpAny (model prog w) A (ofAClassStatement 8 (.ref a)) Q E s := by
  have hT := hk.typeIs
  obtain ⟨o, items, n, ho, _, hd, hi⟩ := hk
  unfold ofAClassStatement
  refine wpAny_bind (wpAny_typeOf hT ?_)
  dsimp only
  rw [if_pos (by decide)]
  refine wpAny_bind (wpAny_pure ?_)
  simp only [Bool.not_true, Bool.false_eq_true, if_false]
  refine wpAny_bind (wpAny_seqItems ho hd ?_)
  refine wpAny_bind ?_
  show wpAny _ _ (forIn items _ _) _ _ s
  rw [<- Array.forIn_toList]
  refine wpAny_forIn_list _ (fun rest r s' => r.1 = none /\ s' = s /\ ∀ v ∈ rest, ∃ i t, v = .int i t) _ ?_ ?_ _ _ ⟨rfl, rfl, int_items hi⟩
  · rintro v rest r s' ⟨hr, rfl, hall⟩
    obtain ⟨i, t, rfl⟩ := hall v List.mem_cons_self
    refine wpAny_bind (show wpAny _ _ (ofAClassStatement 7 (.int i t)) _ _ _ from ?_)
    unfold ofAClassStatement
    refine wpAny_pure ?_
    simp only [Bool.false_eq_true, if_false]
    exact wpAny_pure ⟨rfl, rfl, fun u hu' => hall u (List.mem_cons_of_mem _ hu')⟩
  · rintro ⟨r1, r2⟩ s' ⟨hr, rfl, _⟩
    simp only at hr
    subst hr
    exact wpAny_pure h
theorem byValue_yes {ks : List Int} {a : Addr} {Q : Bool -> Shared -> Prop} (hk : TK prog w s.heap ks a) (h : Q true s) : wpAny (model prog w) A (hashByValue 8 (.ref a)) Q E s := by
  have hT := hk.typeIs
  obtain ⟨o, items, n, ho, _, hd, hi⟩ := hk
  unfold hashByValue
  refine wpAny_bind (wpAny_specialOf hT F.slot_tuple_hash.lookup ?_)
  show wpAny _ _ (seqItems? (.ref a) >>= _) _ _ s
  refine wpAny_bind (wpAny_seqItems ho hd ?_)
  refine wpAny_bind ?_
  show wpAny _ _ (forIn items _ _) _ _ s
  rw [<- Array.forIn_toList]
  refine wpAny_forIn_list _ (fun rest r s' => r.1 = none /\ s' = s /\ ∀ v ∈ rest, ∃ i t, v = .int i t) _ ?_ ?_ _ _ ⟨rfl, rfl, int_items hi⟩
  · rintro v rest r s' ⟨hr, rfl, hall⟩
    obtain ⟨i, t, rfl⟩ := hall v List.mem_cons_self
    refine wpAny_bind (show wpAny _ _ (hashByValue 7 (.int i t)) _ _ _ from ?_)
    unfold hashByValue
    refine wpAny_pure ?_
    simp only [Bool.not_true, Bool.false_eq_true, if_false]
    exact wpAny_pure ⟨rfl, rfl, fun u hu' => hall u (List.mem_cons_of_mem _ hu')⟩
  · rintro ⟨r1, r2⟩ s' ⟨hr, rfl, _⟩
    simp only at hr
    subst hr
    exact wpAny_pure h
theorem unseen {kx : List Int} {b : Addr} {ys : List Value} {Q : Bool -> Shared -> Prop} (hx : TK prog w s.heap kx b) (hy : ∀ y ∈ ys, ∃ c ks, y = .ref c /\ TK prog w s.heap ks c) (h : Q false s) : wpAny (model prog w) A (searchCouldBeSeen (.ref b) ys) Q E s := by
  unfold searchCouldBeSeen
  refine wpAny_bind ?_
  refine wpAny_forIn_list _ (fun rest r s' => r.1 = none /\ s' = s /\ ∀ y ∈ rest, ∃ c ks, y = .ref c /\ TK prog w s.heap ks c) _ ?_ ?_ _ _ ⟨rfl, rfl, hy⟩
  · rintro v rest r s' ⟨hr, rfl, hall⟩
    obtain ⟨c, ks, rfl, hc⟩ := hall v List.mem_cons_self
    have fin : ∀ {r : Option Bool × PUnit}, r.1 = none -> (r.1 = none /\ s' = s' /\ ∀ y ∈ rest, ∃ c ks, y = .ref c /\ TK prog w s'.heap ks c) := fun z => ⟨z, rfl, fun u hu' => hall u (List.mem_cons_of_mem _ hu')⟩
    dsimp only
    refine wpAny_ite_split (fun _ => wpAny_pure (fin rfl)) (fun _ => ?_)
    refine wpAny_bind (wpAny_eqIsQuiet_tuple hx ?_)
    simp only [Bool.not_true, Bool.false_eq_true, if_false]
    refine wpAny_bind (wpAny_eqIsQuiet_tuple hc ?_)
    simp only [Bool.not_true, Bool.false_eq_true, if_false]
    refine wpAny_bind (class_no hx ?_)
    simp only [Bool.false_eq_true, if_false]
    refine wpAny_bind (class_no hc ?_)
    simp only [Bool.false_eq_true, if_false]
    exact wpAny_pure (fin rfl)
  · rintro ⟨r1, r2⟩ s' ⟨hr, rfl, _⟩
    simp only at hr
    subst hr
    exact wpAny_pure h
end
end L2
namespace L2
open PySem PySem.SetTable
section
variable {prog : Program} {w : World} {A : Around} {E : Value -> Shared -> Prop} {s : Shared} {a b : Addr} {o : Obj} {es : Array (Int × Value)} {ep : Nat} {t : SetTable} {kx : List Int}
abbrev hashT (prog : Program) (w : World) (ks : List Int) : Int := tupleKeyHash (intKind prog w) ks
theorem ris_inj {xs : Array Nat} (hr : Ris xs.toList) {i j x : Nat} (h1 : xs[i]? = some x) (h2 : xs[j]? = some x) : i = j := by
  obtain ⟨b1, e1⟩ := Array.getElem?_eq_some_iff.mp h1
  obtain ⟨b2, e2⟩ := Array.getElem?_eq_some_iff.mp h2
  have g1 : xs.getD i 0 = x := by simp [Array.getD, b1, e1]
  have g2 : xs.getD j 0 = x := by simp [Array.getD, b2, e2]
  refine Classical.byContradiction fun ne => ?_
  by_cases c : i < j
  · have := ris_lt hr b2 c; lia
  · have := ris_lt hr b1 (show j < i by lia); lia
def EntK (prog : Program) (w : World) (h : Heap) (e : Int × Value) (ks : List Int) : Prop := ∃ c, e.2 = .ref c /\ TK prog w h ks c
def Ents (prog : Program) (w : World) (h : Heap) (es : Array (Int × Value)) : Prop := ∀ e ∈ es.toList, ∃ ks, EntK prog w h e ks /\ e.1 = hashT prog w ks
theorem search_ok (hu : A.units < cLine) (ho : s.heap.get? a = some o) (hd : o.data = .set es ep t) (T : SetI t es) (hel : Ents prog w s.heap es) (hx : TK prog w s.heap kx b) {N : Nat} (hNb : N <= 10 * (t.mask + 14))
    (hN : (way t.mask (hashT prog w kx) N).j ∉ t.place.toList) (hk : ∀ k, k < N -> (way t.mask (hashT prog w kx) k).j ∈ t.place.toList) {Q : SetFound -> Shared -> Prop} (q1 : (∃ e ∈ es.toList, EntK prog w s.heap e kx) -> Q (.there none) s)
    (q2 : (∀ e ∈ es.toList, ¬ EntK prog w s.heap e kx) -> Q (.free (way t.mask (hashT prog w kx) N).j false) s) :
    ∀ (fuel n : Nat) (st : Option Probe), st.getD (t.probeStart (hashT prog w kx)) = way t.mask (hashT prog w kx) n -> n <= N -> N - n < fuel ->
      (∀ m, m < n -> ∀ e, es[below t.place (way t.mask (hashT prog w kx) m).j]? = some e -> ¬ EntK prog w s.heap e kx) -> wpAny (model prog w) A (setSearchFrom a (.ref b) (hashT prog w kx) true fuel st) Q E s
  | 0, n, st, _, _, h2, _ => by lia
  | fuel + 1, n, st, est, h1, h2, hno => by
    unfold setSearchFrom
    refine wpAny_bind (wpAny_setState_of ho hd T.fits ?_)
    dsimp only
    have od : t.gaveWay = false := by
      unfold SetTable.gaveWay
      rw [T.full.1]
      rfl
    rw [od, est]
    simp only [Bool.false_eq_true, if_false]
    have other : ∀ m, m < N -> (es[below t.place (way t.mask (hashT prog w kx) m).j]?.map (·.1)).getD 0 ≠ hashT prog w kx -> ∀ e, es[below t.place (way t.mask (hashT prog w kx) m).j]? = some e -> ¬ EntK prog w s.heap e kx := fun m hm ne e he z => by
      rw [he] at ne
      obtain ⟨ks, ⟨c, ec, hc⟩, eh⟩ := hel e (by rw [<- Array.getElem?_toList] at he; exact List.mem_of_getElem? he)
      obtain ⟨c2, ec2, hc2⟩ := z
      rw [ec] at ec2
      cases ec2
      refine ne ?_
      show e.1 = _
      rw [eh, hc.inj hc2]
    have fl : N - n < 10 * turns t.mask := by unfold turns; lia
    unfold SetTable.probe
    rcases probe_go T.dum T.ris _ (hashT prog w kx) hN hk (10 * turns t.mask) n h1 fl with ⟨k, i, a1, a2, a3, a4, a5, a6, a7⟩ | ⟨a1, a2⟩
    · rw [a6]
      dsimp only
      have ib : i < es.size := by
        rw [<- T.len]
        exact (Array.getElem?_eq_some_iff.mp a3).1
      have ei : es[i]? = some es[i] := Array.getElem?_eq_getElem ib
      have ebi : below t.place (way t.mask (hashT prog w kx) k).j = i := by
        have := (slot_live T.ris (hk k a2)).1
        rw [a4] at this
        injection this with this
        exact this.symm
      obtain ⟨ks, ⟨c, ec, hc⟩, eh⟩ := hel es[i] (by simp)
      have next : wpAny (model prog w) A (do
          let some (_, y) := es[i]? | unsupported "internal:set-entry"
          let equal <- holding [y] (eqBool y (.ref b))
          let (es', _, t') <- setState a
          if true && equal then return .there none
          let some same := t'.sameMemory t.moves t.mask | unsupported "set.changed-during-lookup:is-the-new-block-at-the-old-address"
          let still <- match (if same then t'.slot (way t.mask (hashT prog w kx) k).j else .empty) with
            | .live i' => match es'[i']? with
              | some (_, y') => do pure (if <- isSame y' y then some i' else none)
              | none => pure none
            | _ => pure none
          match still with
          | none => rule "set.search.anew"; setSearchFrom a (.ref b) (hashT prog w kx) true fuel none
          | some i' => if equal then return .there (some i') else setSearchFrom a (.ref b) (hashT prog w kx) true fuel (some (way t.mask (hashT prog w kx) (k + 1)))) Q E s := by
        rw [ei]
        dsimp only
        rw [ec]
        refine wpAny_bind (wpAny_holding (wpAny_eqBool_tuple hu hc hx ?_))
        refine wpAny_bind (wpAny_setState_of ho hd T.fits ?_)
        dsimp only
        by_cases e : ks = kx
        · subst e
          rw [decide_eq_true rfl]
          simp only [Bool.and_true, if_true]
          exact wpAny_pure (q1 ⟨es[i], by simp, c, ec, hc⟩)
        · rw [decide_eq_false e]
          simp only [Bool.and_false, Bool.false_eq_true, if_false]
          have sm : t.sameMemory t.moves t.mask = some true := by
            unfold SetTable.sameMemory
            rw [if_pos (by simp)]
          rw [sm]
          dsimp only
          simp only [if_true]
          rw [a4]
          dsimp only
          rw [ei]
          dsimp only
          rw [ec]
          refine wpAny_bind (show wpAny _ _ (isSame (.ref c) (.ref c)) _ _ _ from ?_)
          unfold isSame
          dsimp only
          rw [if_pos (by simp)]
          refine wpAny_pure ?_
          simp only [if_true]
          refine wpAny_bind (wpAny_pure ?_)
          dsimp only
          refine search_ok hu ho hd T hel hx hNb hN hk q1 q2 fuel (k + 1) _ rfl (by lia) (by lia) fun m hm e2 he2 => ?_
          by_cases c1 : m < n
          · exact hno m c1 e2 he2
          · by_cases c2 : m = k
            · subst c2
              rw [ebi, ei] at he2
              cases he2
              rintro ⟨c3, ec3, hc3⟩
              rw [ec] at ec3
              cases ec3
              exact e (hc.inj hc3)
            · obtain ⟨_, pl⟩ := slot_live T.ris (hk m (by lia))
              exact other m (by lia) (a7 m (by lia) (by lia) _ pl (Array.getElem?_eq_some_iff.mp pl).1) e2 he2
      by_cases hl : t.led = true
      · rw [hl]
        simp only [Bool.not_true, Bool.false_eq_true, if_false]
        exact next
      · have hl' : t.led = false := by simpa using hl
        rw [hl']
        simp only [Bool.not_false, if_true]
        refine wpAny_bind (unseen hx (fun y hy => ?_) ?_)
        · obtain ⟨e, he, rfl⟩ := List.mem_map.mp hy
          obtain ⟨ks, ⟨c, ec, hc⟩, _⟩ := hel e (by
            have := Array.mem_toList_iff.mp he
            exact Array.mem_toList_iff.mpr (Array.mem_filter.mp this).1)
          exact ⟨c, ks, ec, hc⟩
        · simp only [Bool.false_eq_true, if_false]
          exact next
    · rw [a1]
      dsimp only
      refine wpAny_pure (q2 fun e he z => ?_)
      obtain ⟨ks, ⟨c, ec, hc⟩, eh⟩ := hel e he
      obtain ⟨i, hi, ei⟩ := List.getElem_of_mem he
      have hi' : i < es.size := by simpa using hi
      have hp : i < t.place.size := by rw [T.len]; exact hi'
      have mz : (t.place.toList[i]'(by simpa using hp), e) ∈ t.place.toList.zip es.toList := by
        rw [List.mem_iff_getElem]
        exact ⟨i, by rw [List.length_zip, Array.length_toList, Array.length_toList]; lia, by simp [<- ei]⟩
      obtain ⟨n0, w1, w2⟩ := T.reach _ mz
      dsimp only at w1 w2
      have ek : ks = kx := by
        obtain ⟨c2, ec2, hc2⟩ := z
        rw [ec] at ec2
        cases ec2
        exact hc.inj hc2
      subst ek
      rw [eh] at w1 w2
      have n0N : n0 < N := by
        refine Classical.byContradiction fun hn => ?_
        by_cases e0 : n0 = N
        · subst e0
          rw [w1] at hN
          exact hN (by simp)
        · exact hN (w2 N (by lia))
      have bi : below t.place (way t.mask (hashT prog w ks) n0).j = i := by
        obtain ⟨_, pl⟩ := slot_live T.ris (hk n0 n0N)
        rw [w1] at pl ⊢
        refine ris_inj T.ris pl ?_
        rw [<- Array.getElem?_toList]
        exact List.getElem?_eq_getElem (by simpa using hp)
      have eei : es[i]? = some e := by rw [<- Array.getElem?_toList, <- ei]; exact List.getElem?_eq_getElem hi
      by_cases c1 : n0 < n
      · exact hno n0 c1 e (by rw [bi]; exact eei) ⟨c, ec, hc⟩
      · refine a2 n0 (by lia) n0N ?_
        rw [bi]
        show (es[i]?.map (·.1)).getD 0 = _
        rw [eei]
        exact eh
end
end L2
namespace L2
open PySem PySem.SetTable PyProof.Rows
theorem zip_ins {α β : Type} (l : List α) (m : List β) (n : Nat) (h : l.length = m.length) (x : α) (y : β) : (l.take n ++ x :: l.drop n).zip (m.take n ++ y :: m.drop n) = (l.zip m).take n ++ (x, y) :: (l.zip m).drop n := by
  rw [List.zip_append (by rw [List.length_take, List.length_take, h]), List.zip_cons_cons]
  congr 1
  · rw [List.zip_eq_zipWith, List.zip_eq_zipWith, List.take_zipWith]
  · rw [List.zip_eq_zipWith, List.zip_eq_zipWith, List.drop_zipWith]
theorem mem_ins {α : Type} {l : List α} {n : Nat} {x y : α} : y ∈ l.take n ++ x :: l.drop n ↔ y = x \/ y ∈ l := by
  have e := List.take_append_drop n l
  constructor
  · intro h
    rcases List.mem_append.mp h with h | h
    · exact .inr (List.mem_of_mem_take h)
    · rcases List.mem_cons.mp h with h | h
      · exact .inl h
      · exact .inr (List.mem_of_mem_drop h)
  · rintro (h | h)
    · rw [h]; exact List.mem_append.mpr (.inr List.mem_cons_self)
    · rw [<- e] at h
      rcases List.mem_append.mp h with h | h
      · exact List.mem_append.mpr (.inl h)
      · exact List.mem_append.mpr (.inr (List.mem_cons_of_mem _ h))
theorem put_is {t : SetTable} (hd : t.dummies = #[]) (j : Nat) : t.put j = ({ t with place := insertAt t.place (below t.place j) j }, below t.place j) := by
  unfold SetTable.put
  dsimp only
  rw [hd, has_nil]
  simp only [Bool.false_eq_true, if_false]
theorem put_ok {t : SetTable} {es : Array (Int × Value)} (T : SetI t es) {h : Int} {N : Nat} (hN : (way t.mask h N).j ∉ t.place.toList) (hk : ∀ k, k < N -> (way t.mask h k).j ∈ t.place.toList) (x : Value) :
    Ris (insertAt t.place (below t.place (way t.mask h N).j) (way t.mask h N).j).toList /\ ∀ q ∈ (insertAt t.place (below t.place (way t.mask h N).j) (way t.mask h N).j).toList.zip (insertAt es (below t.place (way t.mask h N).j) (h, x)).toList,
      Reach t.mask (insertAt t.place (below t.place (way t.mask h N).j) (way t.mask h N).j).toList q.2.1 q.1 := by
  rw [SetTable.toList_insertAt, SetTable.toList_insertAt]
  obtain ⟨a, b, c⟩ := below_is T.ris (way t.mask h N).j
  have ll : t.place.toList.length = es.toList.length := by rw [Array.length_toList, Array.length_toList, T.len]
  refine ⟨?_, fun q hq => ?_⟩
  · refine List.pairwise_append.mpr ⟨T.ris.sublist (List.take_sublist _ _), List.pairwise_cons.mpr ⟨fun y hy => ?_, T.ris.sublist (List.drop_sublist _ _)⟩, fun x hx y hy => ?_⟩
    · have := c y hy
      have ne : y ≠ (way t.mask h N).j := fun z => hN (by rw [<- z]; exact List.mem_of_mem_drop hy)
      lia
    · rcases List.mem_cons.mp hy with rfl | hy
      · exact b x hx
      · exact Nat.lt_of_lt_of_le (b x hx) (c y hy)
  · rw [zip_ins _ _ _ ll] at hq
    have sub : ∀ y ∈ t.place.toList, y ∈ t.place.toList.take (below t.place (way t.mask h N).j) ++ (way t.mask h N).j :: t.place.toList.drop (below t.place (way t.mask h N).j) := fun y hy => mem_ins.mpr (.inr hy)
    rcases mem_ins.mp hq with rfl | hq
    · exact ⟨N, rfl, fun k h' => sub _ (hk k h')⟩
    · exact (T.reach q hq).more sub
theorem relay_ok {t : SetTable} {es : Array (Int × Value)} {wd m : Nat} (F : m = 7 \/ m = 31 \/ m = 127 \/ m = 511) (hw : sizeAbove wd - 1 = m) (few : es.size * 5 < m * 3) (pl : t.plain = true) :
    ∃ t2 order, t.relaid (es.map (·.1)) wd = some (t2, order) /\ (order.filterMap (es[·]?)).size = es.size /\ (order.filterMap (es[·]?)).toList.Perm es.toList /\ SetI t2 (order.filterMap (es[·]?)) /\ t2.led = t.led := by
  have FF : Full m := by
    rcases F with e | e | e | e <;> rw [e]
    · exact full7
    · exact full31
    · exact full127
    · exact full511
  obtain ⟨l, e1, e2, e3, e4⟩ := laid_ok FF t.finger (t.movedTo m) t.led t.plain (es.map (·.1)) (by rw [Array.size_map]; lia)
  rw [Array.size_map] at e3
  have lt : ∀ q ∈ l, q.2 < es.size := fun q hq => List.mem_range.mp (e3.mem_iff.mp (List.mem_map_of_mem hq))
  have fm : ∀ l' : List (Nat × Nat), (∀ q ∈ l', q.2 < es.size) -> (l'.map (·.2)).filterMap (es[·]?) = l'.map fun q => es.getD q.2 (0, .none) := fun l' => by
    induction l' with
    | nil => intro _; rfl
    | cons q l' ih =>
      intro hq
      have h0 := hq q List.mem_cons_self
      rw [List.map_cons, List.map_cons, List.filterMap_cons, Array.getElem?_eq_getElem h0]
      dsimp only
      rw [ih fun r hr => hq r (List.mem_cons_of_mem _ hr)]
      simp [Array.getD, h0]
  have el : (((l.map (·.2)).toArray).filterMap (es[·]?)).toList = l.map fun q => es.getD q.2 (0, .none) := by
    rw [Array.toList_filterMap]
    exact fm l lt
  have ll : l.length = es.size := by
    have := e3.length_eq
    rw [List.length_map, List.length_range] at this
    exact this
  have sz : (((l.map (·.2)).toArray).filterMap (es[·]?)).size = es.size := by
    rw [<- Array.length_toList, el, List.length_map, ll]
  refine ⟨{ mask := m, place := (l.map (·.1)).toArray, dummies := #[], finger := t.finger, led := t.led, moves := t.movedTo m, plain := t.plain }, _, by unfold SetTable.relaid; rw [hw]; exact e1, sz, ?_, ⟨F, rfl, e2, ?_, by rw [sz]; exact few, ?_, pl⟩, rfl⟩
  · rw [el]
    have p2 := e3.map fun i => es.getD i (0, .none)
    rw [List.map_map] at p2
    refine p2.trans (List.Perm.of_eq ?_)
    apply List.ext_getElem
    · simp
    · intro i h1 h2
      simp at h1
      simp [Array.getD, h1]
  · show (l.map (·.1)).toArray.size = _
    rw [sz, List.size_toArray, List.length_map, ll]
  · intro q hq
    rw [el] at hq
    have zz : ∀ l' : List (Nat × Nat), (l'.map (·.1)).zip (l'.map fun q => es.getD q.2 (0, Value.none)) = l'.map fun q => (q.1, es.getD q.2 (0, Value.none)) := fun l' => by
      induction l' with
      | nil => rfl
      | cons a l' ih => rw [List.map_cons, List.map_cons, List.zip_cons_cons, ih, List.map_cons]
    have hq' : q ∈ (l.map (·.1)).zip (l.map fun q => es.getD q.2 (0, Value.none)) := hq
    rw [zz] at hq'
    obtain ⟨r, hr, rfl⟩ := List.mem_map.mp hq'
    have := e4 r hr
    have h0 := lt r hr
    have eh : (es.map (·.1)).toList.getD r.2 0 = (es.getD r.2 (0, Value.none)).1 := by simp [Array.getD, h0]
    rw [eh] at this
    exact this
def TabT (prog : Program) (w : World) (G : Value -> List Int -> Prop) (h : Heap) (a : Addr) (led : Bool) (kss : List (List Int)) : Prop :=
  ∃ o es ep t, h.get? a = some o /\ o.ExactSet /\ o.data = .set es ep t /\ SetI t es /\ t.led = led /\ ∃ ksl : List (List Int), Paired (fun e ks => EntK prog w h e ks /\ e.1 = hashT prog w ks /\ G e.2 ks) es.toList ksl /\ ksl.Perm kss
def stepK (kss : List (List Int)) (k : List Int) : List (List Int) := if k ∈ kss then kss else kss ++ [k]
theorem EntK.at {prog : Program} {w : World} {h h' : Heap} {e : Int × Value} {ks : List Int} (x : EntK prog w h e ks) (k : ∀ b o, o.cls = .type "tuple" -> h.get? b = some o -> h'.get? b = some o) : EntK prog w h' e ks := by
  obtain ⟨c, ec, o, it, n, ho, hc, r⟩ := x
  exact ⟨c, ec, o, it, n, k _ _ hc ho, hc, r⟩
theorem TabT.at {prog : Program} {w : World} {G : Value -> List Int -> Prop} {h h' : Heap} {a : Addr} {led : Bool} {kss : List (List Int)} (x : TabT prog w G h a led kss) (k : ∀ b o, h.get? b = some o -> b = a \/ o.cls = .type "tuple" -> h'.get? b = some o) : TabT prog w G h' a led kss := by
  obtain ⟨o, es, ep, t, g, ex, hd, T, hl, ksl, p1, p2⟩ := x
  exact ⟨o, es, ep, t, k _ _ g (.inl rfl), ex, hd, T, hl, ksl, Paired.mapP p1 fun _ _ z => ⟨z.1.at fun b o hc ho => k b o ho (.inr hc), z.2⟩, p2⟩
theorem TabT.fresh {prog : Program} {w : World} {G : Value -> List Int -> Prop} {h : Heap} {a : Addr} {led : Bool} (hg : h.get? a = some { cls := .type "set", dict := none, data := .set #[] 0 (.fresh 0 0 led) }) : TabT prog w G h a led [] :=
  ⟨_, #[], 0, .fresh 0 0 led, hg, ⟨rfl, rfl, rfl⟩, rfl, SetI.fresh 0 0 led, rfl, [], .nil, .refl _⟩
theorem paired_ins {α β : Type} {F : α -> β -> Prop} {x : α} {y : β} (r : F x y) : ∀ {l : List α} {m : List β} (n : Nat), Paired F l m -> Paired F (l.take n ++ x :: l.drop n) (m.take n ++ y :: m.drop n)
  | l, m, 0, h => .cons r h
  | _, _, n + 1, .nil => .cons r .nil
  | _, _, n + 1, .cons a t => .cons a (paired_ins r n t)
theorem paired_at2 {α β : Type} {F : α -> β -> Prop} : ∀ {l : List α} {m : List β}, Paired F l m -> ∀ {i : Nat} {b : β}, m[i]? = some b -> ∃ a, l[i]? = some a /\ F a b
  | _, _, .nil, _, _, h => nomatch h
  | _, _, .cons r _, 0, _, h => ⟨_, rfl, by cases h; exact r⟩
  | _, _, .cons _ t, i + 1, _, h => paired_at2 t (i := i) h
theorem paired_perm {α β : Type} {F : α -> β -> Prop} {xs ys : List α} (p : ys.Perm xs) : ∀ {ts : List β}, Paired F xs ts -> ∃ us, us.Perm ts /\ Paired F ys us := by
  induction p with
  | nil => intro ts h; exact ⟨ts, .refl _, h⟩
  | cons a _ ih =>
    intro ts h
    cases h with
    | cons h t => obtain ⟨us, p, q⟩ := ih t; exact ⟨_ :: us, p.cons _, .cons h q⟩
  | swap a b l =>
    intro ts h
    cases h with
    | cons h t => cases t with
      | cons h2 t2 => exact ⟨_, List.Perm.swap .., .cons h2 (.cons h t2)⟩
  | trans _ _ ih1 ih2 =>
    intro ts h
    obtain ⟨us, p, q⟩ := ih2 h
    obtain ⟨ws, p2, q2⟩ := ih1 q
    exact ⟨ws, p2.trans p, q2⟩
section
variable {prog : Program} {w : World} {G : Value -> List Int -> Prop} {A : Around} {E : Value -> Shared -> Prop} {s : Shared} {a b : Addr} {led : Bool} {kss : List (List Int)} {kx : List Int}
theorem add_tup {Q : Bool -> Shared -> Prop} (hu : A.units < cLine) (hS : TabT prog w G s.heap a led kss) (hx : TK prog w s.heap kx b) (hG : G (.ref b) kx) (room : kss.length < 150)
    (q : ∀ r h', Heap.SameBut a s.heap h' -> TabT prog w G h' a led (stepK kss kx) -> Q r { s with heap := h' }) : wpAny (model prog w) A (setAddHashed a (.ref b) (hashT prog w kx)) Q E s := by
  obtain ⟨o, es, ep, t, ho, hex, hd, T, hl, ksl, p1, p2⟩ := id hS
  have zl : es.size = kss.length := by have := Paired.length p1; rw [p2.length_eq] at this; simpa using this
  have hel : Ents prog w s.heap es := fun e he => by
    obtain ⟨i, hi, ei⟩ := List.getElem_of_mem he
    obtain ⟨ks, _, r⟩ := Paired.at p1 (i := i) (a := e) (by rw [<- ei]; exact List.getElem?_eq_getElem hi)
    exact ⟨ks, r.1, r.2.1⟩
  have isK : (∃ e ∈ es.toList, EntK prog w s.heap e kx) ↔ kx ∈ kss := by
    constructor
    · rintro ⟨e, he, c, ec, hc⟩
      obtain ⟨i, hi, ei⟩ := List.getElem_of_mem he
      obtain ⟨ks, ek, ⟨c2, ec2, hc2⟩, _⟩ := Paired.at p1 (i := i) (a := e) (by rw [<- ei]; exact List.getElem?_eq_getElem hi)
      rw [ec] at ec2
      cases ec2
      have : ks = kx := hc2.inj hc
      rw [<- this]
      exact p2.mem_iff.mp (List.mem_of_getElem? ek)
    · intro hk
      obtain ⟨i, hi, ei⟩ := List.getElem_of_mem (p2.mem_iff.mpr hk)
      obtain ⟨e, ee, r⟩ := paired_at2 p1 (i := i) (b := kx) (by rw [<- ei]; exact List.getElem?_eq_getElem hi)
      exact ⟨e, List.mem_of_getElem? ee, r.1⟩
  have nsc : byScan (.ref b) es = false := rfl
  obtain ⟨N, n1, n2, n3⟩ := first_free T.full (hashT prog w kx) (l := t.place.toList) (by rw [Array.length_toList, T.len]; have := T.few; lia)
  unfold setAddHashed setAddHashedIn
  refine wpAny_holding (wpAny_bind (wpAny_setState_of ho hd T.fits ?_))
  dsimp only
  rw [nsc]
  simp only [Bool.false_eq_true, if_false]
  unfold setSearch
  have mb : t.mask <= 511 := by rcases T.msk with e | e | e | e <;> lia
  refine wpAny_bind (search_ok hu ho hd T hel hx n1 n2 n3 (fun ex => ?_) (fun al => ?_) 100000 0 none rfl (Nat.zero_le _) (by lia) fun m hm => absurd hm (Nat.not_lt_zero m))
  · dsimp only
    have := q false s.heap (Heap.SameBut.refl a s.heap) (by unfold stepK; rw [if_pos (isK.mp ex)]; exact hS)
    exact wpAny_pure this
  · dsimp only
    have nk : kx ∉ kss := fun z => by
      obtain ⟨e, he, r⟩ := isK.mpr z
      exact al e he r
    have sd : stepK kss kx = kss ++ [kx] := by unfold stepK; rw [if_neg nk]
    refine wpAny_bind (wpAny_setState_of ho hd T.fits ?_)
    dsimp only
    rw [put_is T.dum]
    dsimp only
    rw [if_pos T.plain]
    refine wpAny_bind (byValue_yes hx ?_)
    simp only [if_true]
    obtain ⟨r1, r2⟩ := put_ok T n2 n3 (.ref b)
    have z1 : (insertAt es (below t.place (way t.mask (hashT prog w kx) N).j) (hashT prog w kx, Value.ref b)).size = es.size + 1 := by
      have := (SetTable.insertAt_perm es (below t.place (way t.mask (hashT prog w kx) N).j) (hashT prog w kx, Value.ref b)).length_eq
      rw [Array.length_toList, Array.length_toList, Array.size_push] at this
      exact this
    have z2 : (insertAt t.place (below t.place (way t.mask (hashT prog w kx) N).j) (way t.mask (hashT prog w kx) N).j).size = es.size + 1 := by
      have := (SetTable.insertAt_perm t.place (below t.place (way t.mask (hashT prog w kx) N).j) (way t.mask (hashT prog w kx) N).j).length_eq
      rw [Array.length_toList, Array.length_toList, Array.size_push, T.len] at this
      exact this
    have pi := paired_ins (F := fun (e : Int × Value) ks => EntK prog w s.heap e ks /\ e.1 = hashT prog w ks /\ G e.2 ks) (x := (hashT prog w kx, Value.ref b)) (y := kx) ⟨⟨b, rfl, hx⟩, rfl, hG⟩ (below t.place (way t.mask (hashT prog w kx) N).j) p1
    rw [<- SetTable.toList_insertAt] at pi
    have pk : (ksl.take (below t.place (way t.mask (hashT prog w kx) N).j) ++ kx :: ksl.drop (below t.place (way t.mask (hashT prog w kx) N).j)).Perm (kss ++ [kx]) := by
      refine List.perm_middle.trans ?_
      rw [List.take_append_drop]
      exact (p2.cons kx).trans (List.perm_append_comm (l₁ := [kx]))
    generalize insertAt es (below t.place (way t.mask (hashT prog w kx) N).j) (hashT prog w kx, Value.ref b) = es1 at r2 z1 pi ⊢
    generalize insertAt t.place (below t.place (way t.mask (hashT prog w kx) N).j) (way t.mask (hashT prog w kx) N).j = pl1 at r1 r2 z2 ⊢
    generalize ksl.take (below t.place (way t.mask (hashT prog w kx) N).j) ++ kx :: ksl.drop (below t.place (way t.mask (hashT prog w kx) N).j) = ksl1 at pi pk
    refine wpAny_bind (wpAny_storeSet_of ho hd ?_ (by rw [z1, sizeLine_eq]; lia))
    have g1 : (s.heap.update a (Obj.putSet es1 { t with place := pl1 })).get? a = some { o with data := .set es1 (ep + 1) { t with place := pl1 } } := by
      have := Heap.get?_update_self (Obj.putSet es1 { t with place := pl1 }) ho (by rw [putSet_of es1 _ hd]; rfl)
      rw [putSet_of es1 _ hd] at this; exact this
    have sb1 := Heap.SameBut.update s.heap a (Obj.putSet es1 { t with place := pl1 })
    have keep : ∀ (h' : Heap), Heap.SameBut a s.heap h' -> ∀ b o, o.cls = .type "tuple" -> s.heap.get? b = some o -> h'.get? b = some o := fun h' sb b' o' hc hb => by
      have ne : b' ≠ a := fun z => by
        rw [z, ho] at hb
        cases hb
        have := hex.1
        rw [hc] at this
        exact absurd this (by decide)
      exact (sb.2 b' ne).trans hb
    have fl : SetTable.fill { t with place := pl1 } = es.size + 1 := by
      unfold SetTable.fill
      show pl1.size + t.dummies.size = _
      rw [z2, T.dum]
      rfl
    have few := T.few
    by_cases c : (es.size + 1) * 5 >= t.mask * 3
    · have tf : SetTable.tooFull { t with place := pl1 } = true := by
        unfold SetTable.tooFull
        rw [fl]
        exact decide_eq_true c
      rw [tf]
      simp only [Bool.not_false, Bool.and_true, if_true]
      obtain ⟨m, hm, em, hm2⟩ : ∃ m, (m = 7 \/ m = 31 \/ m = 127 \/ m = 511) /\ sizeAbove (grown (es.size + 1)) - 1 = m /\ es1.size * 5 < m * 3 := by
        rw [z1]
        rcases T.msk with e | e | e | e
        · have : es.size = 4 := by lia
          rw [this]
          exact ⟨31, by decide, by decide +kernel, by decide⟩
        · have : es.size = 18 := by lia
          rw [this]
          exact ⟨127, by decide, by decide +kernel, by decide⟩
        · have : es.size = 76 := by lia
          rw [this]
          exact ⟨511, by decide, by decide +kernel, by decide⟩
        · lia
      obtain ⟨t2, order, e1, e2, e3, e4, e5⟩ := relay_ok (t := { t with place := pl1 }) (es := es1) hm em hm2 T.plain
      unfold setRelay
      refine wpAny_bind (wpAny_bind (wpAny_setState_of g1 rfl (fits_of (by show pl1.size = _; rw [z2, z1]) T.dum (by show es1.size <= t.mask; rw [z1]; lia)) ?_))
      dsimp only
      have sl : ¬ sizeAbove (grown (es.size + 1)) > sizeLine := by
        rw [sizeLine_eq]
        rcases hm with e | e | e | e <;> lia
      rw [if_neg sl, e1]
      refine wpAny_bind (show wpAny _ _ (do
        let es' := order.filterMap (es1[·]?)
        if es'.size != es1.size then unsupported "internal:set-table-lost-an-element"
        pure (es', t2)) _ _ _ from ?_)
      dsimp only
      rw [if_neg (by rw [e2]; simp)]
      refine wpAny_pure ?_
      dsimp only
      refine wpAny_storeSet_of g1 rfl ?_ (by rw [e2, z1, sizeLine_eq]; lia)
      have g3 : ((s.heap.update a (Obj.putSet es1 { t with place := pl1 })).update a (Obj.putSet (order.filterMap (es1[·]?)) t2)).get? a = some { o with data := .set (order.filterMap (es1[·]?)) (ep + 1 + 1) t2 } := by
        have := Heap.get?_update_self (Obj.putSet (order.filterMap (es1[·]?)) t2) g1 (by rw [putSet_of _ t2 rfl]; rfl)
        rw [putSet_of _ t2 rfl] at this; exact this
      obtain ⟨ksl2, k1, k2⟩ := paired_perm e3 pi
      have sb2 := sb1.trans (Heap.SameBut.update _ a (Obj.putSet (order.filterMap (es1[·]?)) t2))
      exact wpAny_pure (q true _ sb2 (by rw [sd]; exact ⟨_, _, _, t2, g3, hex, rfl, e4, e5.trans hl, ksl2, Paired.mapP k2 fun _ _ z => ⟨z.1.at (keep _ sb2), z.2⟩, k1.trans pk⟩))
    · have tf : SetTable.tooFull { t with place := pl1 } = false := by
        unfold SetTable.tooFull
        rw [fl]
        exact decide_eq_false c
      rw [tf]
      simp only [Bool.and_false, Bool.false_eq_true, if_false]
      refine wpAny_pure (q true _ sb1 (by rw [sd]; exact ⟨_, es1, ep + 1, { t with place := pl1 }, g1, hex, rfl, ⟨T.msk, T.dum, r1, by show pl1.size = _; rw [z2, z1], by show es1.size * 5 < t.mask * 3; rw [z1]; lia, r2, T.plain⟩, hl, ksl1, Paired.mapP pi fun _ _ z => ⟨z.1.at (keep _ sb1), z.2⟩, pk⟩))
end
end L2
namespace L2
open PySem PySem.Spec PyProof.Rows
def firstK (val : Nat -> List Int) (n : Nat) : List (List Int) := ((List.range n).map val).foldl stepK []
theorem firstK_succ (val : Nat -> List Int) (n : Nat) : firstK val (n + 1) = stepK (firstK val n) (val n) := by
  unfold firstK
  rw [List.range_succ, List.map_append, List.foldl_append]
  rfl
theorem firstK_le (val : Nat -> List Int) : ∀ n, (firstK val n).length <= n
  | 0 => Nat.le_refl _
  | n + 1 => by
    have := firstK_le val n
    rw [firstK_succ]
    unfold stepK
    split
    · lia
    · rw [List.length_append, List.length_singleton]; lia
theorem firstK_mem (val : Nat -> List Int) : ∀ n k, k ∈ firstK val n ↔ ∃ i, i < n /\ val i = k
  | 0, k => Iff.intro (fun z => nomatch z) (fun z => by obtain ⟨i, h, _⟩ := z; exact absurd h (Nat.not_lt_zero i))
  | n + 1, k => by
    have ih := firstK_mem val n k
    have e : k ∈ stepK (firstK val n) (val n) ↔ k ∈ firstK val n \/ k = val n := by
      unfold stepK
      split
      · exact ⟨fun z => .inl z, fun z => z.elim id fun q => by rw [q]; assumption⟩
      · rw [List.mem_append, List.mem_singleton]
    rw [firstK_succ, e, ih]
    constructor
    · rintro (⟨i, h, q⟩ | q)
      · exact ⟨i, by lia, q⟩
      · exact ⟨n, by lia, q.symm⟩
    · rintro ⟨i, h, q⟩
      by_cases c : i = n
      · subst c; exact .inr q.symm
      · exact .inl ⟨i, by lia, q⟩
theorem firstK_nd (val : Nat -> List Int) : ∀ n, (firstK val n).Nodup
  | 0 => .nil
  | n + 1 => by
    have ih := firstK_nd val n
    rw [firstK_succ]
    unfold stepK
    split
    · exact ih
    · rename_i h
      exact List.nodup_append.mpr ⟨ih, by simp, fun x hx y hy e => h (by rw [<- List.mem_singleton.mp hy, <- e]; exact hx)⟩
section
variable {prog : Program} {w : World} {A : Around} {R : Result -> Shared -> Prop} {I : Addr} {fp wr : List Addr} {G : Array GenState -> Array GenState -> Prop} {n : Nat} {P : Nat -> Value -> Prop} {St : Nat -> Shared -> Prop}
theorem TK.keep {h h' : Heap} {ks : List Int} {a : Addr} (x : TK prog w h ks a) (k : ∀ o, h.get? a = some o -> h'.get? a = some o) : TK prog w h' ks a := by
  obtain ⟨o, it, m, ho, r⟩ := x
  exact ⟨o, it, m, k _ ho, r⟩
def FromL (n : Nat) (val : Nat -> List Int) (ad : Nat -> Addr) (v : Value) (ks : List Int) : Prop := ∃ i, i < n /\ v = .ref (ad i) /\ val i = ks
theorem set_loopT (hu : A.in1.units < cLine) (Wk : WalksS prog w A.in1 I fp wr G n P St) (S : Addr) (nS : S ∉ fp) (led : Bool) (val : Nat -> List Int) (ad : Nat -> Addr) (hval : ∀ i v, P i v -> v = .ref (ad i)) (few : n < 150)
    (hnt : ∀ i s, St i s -> ∀ b ∈ wr, ∀ o, s.heap.get? b = some o -> o.cls ≠ .type "tuple") (na : ∀ i, i < n -> ad i ∉ S :: wr) :
    ∀ (k i : Nat) (s : Shared), n - i = k -> i <= n -> St i s -> (∀ i, i < n -> TK prog w s.heap (val i) (ad i)) -> TabT prog w (FromL n val ad) s.heap S led (firstK val i) -> (∀ s', Moved (S :: wr) G s s' -> TabT prog w (FromL n val ad) s'.heap S led (firstK val n) -> R (.ok (.ret .none)) s') ->
      codeAny (model prog w) A (.builtin "set.update.loop" ⟨[.ref S, .ref I], []⟩) R s := by
  have nw : S ∉ wr := fun z => nS (Wk.sub _ z)
  have up : ∀ b ∈ wr, b ∈ S :: wr := fun b hb => List.mem_cons_of_mem _ hb
  have tabm : ∀ i (s s' : Shared), St i s -> Moved wr G s s' -> ∀ kss, TabT prog w (FromL n val ad) s.heap S led kss -> TabT prog w (FromL n val ad) s'.heap S led kss := fun i s s' st mv kss tb => tb.at fun b o ho hb => mv.heap b o (fun z => by
    rcases hb with e | e
    · rw [e] at z; exact nw z
    · exact hnt i s st b z o ho e) ho
  intro k
  induction k with
  | zero =>
    intro i s ek hi st hk tb q
    obtain rfl : i = n := by lia
    refine codeAny_builtin PyProof.Rows.F.entry_set_update_loop ?_
    rw [Around.under_plainId PyProof.Rows.F.plain_set_update_loop _]
    show wpAny _ A.in1 (pyNext (.ref I) >>= _) _ _ s
    refine wpAny_bind (Wk.done s _ _ st fun s' mv => ?_)
    show wpAny _ A.in1 (ret Value.none) _ _ s'
    exact wpAny_pure (q s' (mv.mono up) (tabm _ _ _ st mv _ tb))
  | succ k ih =>
    intro i s ek hi st hk tb q
    have lt : i < n := by lia
    refine codeAny_builtin PyProof.Rows.F.entry_set_update_loop ?_
    rw [Around.under_plainId PyProof.Rows.F.plain_set_update_loop _]
    show wpAny _ A.in1 (pyNext (.ref I) >>= _) _ _ s
    refine wpAny_bind (Wk.item i s _ _ lt st fun v s' hP st' mv => ?_)
    have hk' : ∀ i, i < n -> TK prog w s'.heap (val i) (ad i) := fun i hi => (hk i hi).keep fun o e => mv.heap _ _ (fun z => na i hi (up _ z)) e
    obtain rfl := hval i v hP
    have tb' := tabm _ _ _ st mv _ tb
    show wpAny _ A.in1 (holding [Value.ref (ad i)] (setAdd S (.ref (ad i))) >>= _) _ _ s'
    refine wpAny_bind (wpAny_holding ?_)
    unfold setAdd
    refine wpAny_holding (wpAny_bind (wpAny_pyHash_tuple hu (hk' i lt) ?_))
    refine add_tup (s := { s' with toks := s'.toks + ((val i).length + 1) }) hu tb' (hk' i lt) ⟨i, lt, rfl, rfl⟩ (by have := firstK_le val i; lia) fun b h' sb tb2 => ?_
    rw [<- firstK_succ] at tb2
    refine wpAny_pure ⟨plainId_quiet PyProof.Rows.F.plain_set_update_loop _, ih (i + 1) _ (by lia) lt (Wk.frame _ s' _ _ st' (Nat.le_add_right _ _) fun b hb o e => ?_) (fun j hj => (hk' j hj).keep fun o e => ?_) tb2 fun s2 mv2 tb3 => ?_⟩
    · rw [sb.2 b (fun z : b = S => nS (by rw [<- z]; exact hb))]; exact e
    · rw [sb.2 (ad j) (fun z : ad j = S => na j hj (by rw [z]; exact List.mem_cons_self))]; exact e
    · refine q s2 (Moved.trans Wk.gtrans ((mv.mono up).then_heap (Nat.le_add_right _ _) fun b o hb e => ?_) mv2) tb3
      rw [sb.2 b (fun z : b = S => hb (by rw [z]; exact List.mem_cons_self))]; exact e
end
section
variable {prog : Program} {w : World} {A : Around} {E : Value -> Shared -> Prop} {s : Shared}
set_option maxHeartbeats 8000000 in
theorem call_set_tups {l : Addr} {its : Array Value} {val : Nat -> List Int} {ad : Nat -> Addr} {Q : Value -> Shared -> Prop} (hu : A.units + 60 < cLine) (hh : A.handled = none) (hl : s.heap.IsList l its) (hi : ∀ i, i < its.size -> its[i]? = some (.ref (ad i))) (hk : ∀ i, i < its.size -> TK prog w s.heap (val i) (ad i)) (few : its.size < 150)
    (q : ∀ (h' : Heap) (tk : Nat), TabT prog w (FromL its.size val ad) h' s.heap.objs.size (!w.params.followText "set-order") (firstK val its.size) -> (∀ b o, b < s.heap.objs.size -> s.heap.get? b = some o -> h'.get? b = some o) -> Q (.ref s.heap.objs.size) { s with heap := h', toks := tk }) :
    wpAny (model prog w) A (call (.type "set") [.ref l]) Q E s := by
  obtain ⟨mc, mt, hmro⟩ := F.called_set.mro
  have f1 := F.called_set.made
  have f2 := F.called_set.sub
  have f3 := F.called_set.notType
  have f4 := F.called_set.canCreate
  have f5 := F.typeCall_set_1 (.ref l)
  refine wpAny_call (codeAny_of_tree (show wpAny _ _ (callAny (.type "set") _) _ _ _ from wpAny_pure ⟨Code.quiet_builtin _ (by decide +kernel), codeAny_builtin F.entry_type_call ?_⟩))
  rw [Around.under_plain (weight_type_call_type "set" [.ref l] []) rfl]
  repeat (any_goals (first | assumption | wp_step))
  generalize hled : (!w.params.followText "set-order") = led at q
  have nw : codeAny (model prog w) A.in1 (.call (.builtin "set.__new__") ⟨[.type "set", .ref l], []⟩) (wants (fun obj s₁ => obj = .ref s.heap.objs.size /\ s₁ = { s with heap := s.heap.push { cls := .type "set", dict := none, data := .set #[] 0 (.fresh 0 0 led) } }) E) s := code_new_led (.ref l) (by rw [hled]; exact ⟨rfl, rfl⟩)
  refine codeAny_mono nw fun r s₁ hr => ?_
  cases r with
  | error e => exact hr
  | ok fl =>
    cases fl with
    | ret obj =>
      obtain ⟨rfl, rfl⟩ := hr
      have gS : (s.heap.push { cls := .type "set", dict := none, data := .set #[] 0 (.fresh 0 0 led) }).get? s.heap.objs.size = some { cls := .type "set", dict := none, data := .set #[] 0 (.fresh 0 0 led) } := Heap.get?_push_size _ rfl
      have ty : Shared.TypeIs { s with heap := s.heap.push { cls := .type "set", dict := none, data := .set #[] 0 (.fresh 0 0 led) } } (.ref s.heap.objs.size) "set" := ⟨_, gS, rfl⟩
      have f6 := F.called_set.init.lookup
      have f7 := F.called_set.init.bind (.ref s.heap.objs.size)
      repeat (any_goals (first | assumption | wp_step))
      refine codeAny_mono (codeAny_call_builtin (R := wants (fun r s₂ => r = .none /\ ∃ h' tk, s₂ = { s with heap := h', toks := tk } /\ TabT prog w (FromL its.size val ad) h' s.heap.objs.size led (firstK val its.size) /\ (∀ b o, b < s.heap.objs.size -> s.heap.get? b = some o -> h'.get? b = some o)) E) F.called_set.init.plain F.entry_set_init (check_set_init_1 ty ?_)) fun r2 s2 hr2 => ?_
      · obtain ⟨⟨oc, od, odt, osl⟩, gl, c1, nl, c2⟩ := id hl
        simp only at c1 c2
        subst c1
        subst c2
        have gl' : (s.heap.push { cls := .type "set", dict := none, data := .set #[] 0 (.fresh 0 0 led) }).get? l = some { cls := .type "list", dict := od, data := .seq its nl, slots := osl } := Heap.get?_push_of_some _ gl
        have g1 := F.sub_list_set
        have g2 := F.sub_list_frozenset
        have g3 : (Value.type "list" == Value.type "dict") = false := by decide
        have hl1 : (s.heap.push { cls := .type "set", dict := none, data := .set #[] 0 (.fresh 0 0 led) }).IsList l its := ⟨_, gl', rfl, nl, rfl⟩
        unfold Builtin.«set.__init__» noKeywords Builtin.Frozenset.updateFrom
        generalize hPI : pyIter = PI
        wp_walk
        subst hPI
        refine wpAny_pyIter_list hl1 (wpAny_bind (wpAny_runValue ?_))
        have ll : l < s.heap.objs.size := Heap.lt_size gl
        have sz1 : (s.heap.push { cls := .type "set", dict := none, data := .set #[] 0 (.fresh 0 0 led) }).objs.size = s.heap.objs.size + 1 := Heap.size_push ..
        have hh3 : A.in1.in1.in1.handled = none := by simp [hh]
        have n1 : l ≠ (s.heap.push { cls := .type "set", dict := none, data := .set #[] 0 (.fresh 0 0 led) }).objs.size := by rw [sz1]; exact Nat.ne_of_lt (Nat.lt_succ_of_lt ll)
        have n2 : s.heap.objs.size ∉ [(s.heap.push { cls := .type "set", dict := none, data := .set #[] 0 (.fresh 0 0 led) }).objs.size, l] := by
          rw [sz1]
          intro z
          rcases List.mem_cons.mp z with z | z
          · exact Nat.ne_of_lt (Nat.lt_succ_self _) z
          · exact Nat.ne_of_gt ll (List.mem_singleton.mp z)
        have lad : ∀ i, i < its.size -> ad i < s.heap.objs.size := fun i hi' => by
          obtain ⟨o, _, _, ho, _⟩ := hk i hi'
          exact Heap.lt_size ho
        refine set_loopT ?_ ((Walks.list hh3 _ l n1 its).toS) s.heap.objs.size n2 led val ad (fun i v hv => ?_) few (fun i s' st b hb o ho hc => ?_) (fun i hi' z => ?_) (its.size - 0) 0 _ (by lia) (Nat.zero_le _) ⟨⟨_, Heap.get?_push_size _ rfl, rfl, rfl⟩, (hl1.push _)⟩ (fun i hi' => (hk i hi').keep fun o e => Heap.get?_push_of_some _ (Heap.get?_push_of_some _ e)) (TabT.fresh (Heap.get?_push_of_some _ gS)) ?_
        · have u1 := @in1_units A
          have u2 := @in1_units A.in1
          have u3 := @in1_units A.in1.in1
          lia
        · have hv' : its[i]? = some v := hv
          have lt := (Array.getElem?_eq_some_iff.mp hv').1
          rw [hi i lt] at hv'
          exact (Option.some.inj hv').symm
        · obtain ⟨⟨o2, g4, c4, _⟩, _⟩ := st
          rw [List.mem_singleton.mp hb, g4] at ho
          cases ho
          rw [c4] at hc
          exact absurd hc (by decide)
        · have := lad i hi'
          rcases List.mem_cons.mp z with z | z
          · lia
          · rw [List.mem_singleton.mp z, sz1] at this
            lia
        intro s' mv tb
        obtain ⟨h', g', d', tk', os'⟩ := s'
        have e1 : g' = s.gens := mv.gens
        have e2 : d' = s.drawn := mv.drawn
        have e3 : os' = s.os := mv.os
        subst e1 e2 e3
        refine wpAny_pure (show wpAny _ _ (ret Value.none) _ _ _ from wpAny_pure ⟨rfl, h', tk', rfl, tb, fun b o hb e => ?_⟩)
        refine mv.heap b o (fun z => ?_) (Heap.get?_push_of_some _ (Heap.get?_push_of_some _ e))
        rcases List.mem_cons.mp z with z | z
        · exact Nat.ne_of_lt hb z
        · rw [List.mem_singleton.mp z, sz1] at hb
          exact absurd hb (Nat.not_lt.mpr (Nat.le_succ _))
      · cases r2 with
        | error e => exact hr2
        | ok fl2 =>
          cases fl2 with
          | ret r =>
            obtain ⟨rfl, h', tk, rfl, tb, kk⟩ := hr2
            repeat (any_goals (first | assumption | wp_step))
            exact q _ _ tb kk
          | next => exact hr2
          | brk => exact hr2
          | cont => exact hr2
    | next => exact hr
    | brk => exact hr
    | cont => exact hr
end
end L2
namespace L2
open PySem PySem.W PyProof.Rows
theorem ris_goes {t : SetTable} {es : Array (Int × Value)} (T : SetI t es) (hl : t.led = true) : goesOn t es.size = true := by
  unfold goesOn
  simp only [Bool.and_eq_true, beq_iff_eq, List.all_eq_true]
  refine ⟨⟨⟨T.plain, hl⟩, T.len⟩, fun i hi => ?_⟩
  have hi' : i <= es.size := Nat.le_of_lt_succ (List.mem_range.mp hi)
  obtain ⟨a, b, c⟩ := below_go t.place (slotAt t i) T.ris t.place.size 0 t.place.size (Nat.le_refl _) (Nat.zero_le _) (by lia) (fun k hk => absurd hk (Nat.not_lt_zero k)) (fun k h1 h2 => absurd h1 (by lia))
  show SetTable.below.go t.place (slotAt t i) t.place.size 0 t.place.size = i
  generalize SetTable.below.go t.place (slotAt t i) t.place.size 0 t.place.size = p at a b c
  have tl := T.len
  unfold slotAt at b c
  by_cases i0 : i = 0
  · rw [if_pos i0] at b c
    refine Classical.byContradiction fun hn => ?_
    have := b 0 (by lia)
    lia
  · rw [if_neg i0] at b c
    have h1 : ¬ p <= i - 1 := fun z => by
      have := c (i - 1) (by lia) z
      lia
    have h2 : ¬ i < p := fun z => by
      have := b i z
      have := ris_lt T.ris (a := i - 1) (b := i) (by lia) (by lia)
      lia
    lia
theorem tk_tup {prog : Program} {w : World} {h : Heap} {ks : List Int} {a : Addr} (x : TK prog w h ks a) : TupI h (.ref a) ks := by
  obtain ⟨o, it, n, ho, hc, hd, hi⟩ := x
  refine ⟨a, o, it, n, rfl, ho, hc, hd, ?_⟩
  generalize it.toList = l at hi
  clear hd
  induction hi with
  | nil => exact .nil
  | @cons k v ks vs h1 _ ih =>
    cases v with
    | int i t =>
      have : i = k := by
        have := KeyKind.is_eq_decide (intKind_is prog w i t) k
        rw [h1] at this
        exact (of_decide_eq_true this.symm).symm
      rw [<- this]
      exact .cons _ _ ih
    | _ => exact absurd h1 (by simp [intKind, Value.isInt])
section
variable {prog : Program} {w : World} {A : Around} {E : Value -> Shared -> Prop} {s : Shared} {a : Addr} {kss : List (List Int)} {G : Value -> List Int -> Prop}
theorem sorted_setT {Q : Value -> Shared -> Prop} (hh : A.handled = none) (hS : TabT prog w G s.heap a (!w.params.followText "set-order") kss) (hne : ∀ ks ∈ kss, ks ≠ []) (few : kss.length <= 150)
    (q : ∀ (h' : Heap) (tk : Nat) (l : Addr) (out : List Value) (mss : List (List Int)) (e : Nat), (∀ b o, s.heap.get? b = some o -> h'.get? b = some o) -> s.heap.objs.size <= l -> h'.get? l = some (seqObj "list" out.toArray e) -> Paired G out mss -> mss.Perm kss -> mss.Pairwise LexLe -> Q (.ref l) { s with heap := h', toks := tk }) :
    wpAny (model prog w) A (call (.builtin "sorted") [.ref a]) Q E s := by
  obtain ⟨o, es, ep, t, ho, hex, hd, T, hl, ksl, p1, p2⟩ := hS
  have zl : es.size = kss.length := by have := Paired.length p1; rw [p2.length_eq] at this; simpa using this
  have g' : w.params.followText "set-order" = false -> goesOn t es.size = true := fun z => ris_goes T (by rw [hl, z]; rfl)
  refine Calls.call_function_entry kind_sorted plain_sorted entry_sorted (args_sorted1 _) ?_
  unfold Builtin.«sorted»
  refine wpAny_bind (m := checkCount "sorted" 1 1 _) (wpAny_pure (wpAny_bind (collect_set (by exact hh) ho hex hd T.fits g' (by lia) fun h1 tk k1 z1 => ?_)))
  obtain ⟨kso, ko, p3⟩ := paired_perm (ord_perm w a ep es) p1
  have po : Paired (fun v ks => TupI s.heap v ks /\ G v ks) ((ordOf w a ep es).toList.map (·.2)) kso := by
    have : ∀ {l : List (Int × Value)} {m : List (List Int)}, Paired (fun e ks => EntK prog w s.heap e ks /\ e.1 = hashT prog w ks /\ G e.2 ks) l m -> Paired (fun v ks => TupI s.heap v ks /\ G v ks) (l.map (·.2)) m := fun h => by
      induction h with
      | nil => exact .nil
      | cons r _ ih =>
        obtain ⟨⟨c, ec, hc⟩, _, hg⟩ := r
        refine .cons ⟨?_, hg⟩ ih
        dsimp only
        rw [ec]
        exact tk_tup hc
    exact this p3
  generalize (ordOf w a ep es).toList.map (·.2) = vs at po
  have lv : vs.length = kss.length := by rw [Paired.length po, ko.length_eq, p2.length_eq]
  refine wpAny_bind (wpAny_newList ?_ (by rw [lv, sizeLine_eq]; lia))
  have oL : (h1.push (seqObj "list" vs.toArray 0)).get? h1.objs.size = some (seqObj "list" vs.toArray 0) := Heap.get?_push_size _ rfl
  have pk := ko.trans p2
  have hne2 : ∀ ks ∈ kso, ks ≠ [] := fun ks hk => hne ks (pk.mem_iff.mp hk)
  have ask := asks_tups (prog := prog) (w := w) (s := s) (Paired.mapP po fun _ _ z => z.1) hne2
  refine wpAny_bind (wpAny_holding (wpAny_call_entry slot_list_sort ⟨_, oL, rfl⟩ entry_list_sort (sort_bodyG (s := { s with heap := h1.push (seqObj "list" vs.toArray 0), toks := tk }) oL (lex_ord kso) (by lia) (fun two h' k => ?_) fun pm pb up => ⟨_, rfl, ?_⟩) (args_list_sort _)))
  · have ask2 := asks_tups (prog := prog) (w := w) (s := { s with heap := h1.push (seqObj "list" vs.toArray 0), toks := tk }) (Paired.mapP po fun _ _ z => z.1.kept fun b u e => Heap.get?_push_of_some _ (k1 b u e)) hne2
    refine (asks_tups (prog := prog) (w := w) (s := { s with heap := s.heap, toks := tk }) (Paired.mapP po fun _ _ z => z.1) hne2) _ h' (fun b u z => k b u (fun e => ?_) (Heap.get?_push_of_some _ (k1 b u z))) two
    have := Heap.lt_size (k1 b u z)
    rw [e] at this
    exact absurd this (Nat.lt_irrefl _)
  · obtain ⟨e, he⟩ := sortedHeap_at (out := (outOf vs pm).toArray) oL
    have pl : ∀ i ∈ pm.toList, i < vs.length := fun i hi => by
      have := pb.list.mem_iff.mp hi
      rw [List.mem_range] at this
      exact this
    have kl : vs.length = kso.length := Paired.length po
    refine wpAny_pure ⟨_, rfl, q _ _ _ (outOf vs pm) (pm.toList.map fun i => kso.getD i []) e (fun b o z => ?_) (Nat.le_of_lt z1) he (paired_map fun i hi => ?_) ?_ ?_⟩
    · have lb := Heap.lt_size (k1 b o z)
      show (sortedHeap _ _ _ _).get? b = some o
      rw [sortedHeap_old (Nat.ne_of_lt lb) (by rw [size_push']; exact Nat.lt_succ_of_lt lb)]
      exact Heap.get?_push_of_some _ (k1 b o z)
    · have hi' := pl i hi
      obtain ⟨ks, e1, r⟩ := Paired.at po (i := i) (a := vs[i]) (by simp [hi'])
      have e2 : vs.getD i Value.none = vs[i] := by simp [hi']
      have e3 : kso.getD i [] = ks := by rw [List.getD_eq_getElem?_getD, e1]; rfl
      rw [e2, e3]
      exact r.2
    · have := pb.list.map fun i => kso.getD i []
      rw [kl, range_getD] at this
      exact this.trans pk
    · rw [List.pairwise_iff_getElem]
      intro i j hi hj hij
      rw [List.length_map] at hi hj
      have ls : pm.toList.length = vs.length := by rw [Array.length_toList, pb.size]
      have := up i j (by lia) (by lia)
      simp only [List.getElem_map, Array.getElem_toList]
      have gi : pm.getD i 0 = pm[i] := by simp [Array.getD, show i < pm.size by rw [<- Array.length_toList]; exact hi]
      have gj : pm.getD j 0 = pm[j] := by simp [Array.getD, show j < pm.size by rw [<- Array.length_toList]; exact hj]
      rw [gi, gj] at this
      exact this
end
section
variable {X : Cx}
theorem boot_set15 : bootBuiltins "set" = some (.type "set") := by first | rfl | decide +kernel
theorem boot_sorted15 : bootBuiltins "sorted" = some (.builtin "sorted") := by first | rfl | decide +kernel
def tSortSet (K : PySem.W.Frag) (tl : TE) : TE := fun σ H Q => tl σ H fun x H1 => ∃ a ys kss, x = .ref a /\ SqL K H1 a ys /\ Paired (IntsAt H1) ys kss /\ (∀ ks ∈ kss, ks ≠ []) /\ kss.length < 150 /\
  ∀ (l : Addr) (zs : List V) (mss : List (List Int)), Paired (IntsAt H1) zs mss -> (∀ k, k ∈ mss ↔ k ∈ kss) -> mss.Nodup -> mss.Pairwise LexLe -> H1 l = none -> Q (.ref l) (upd H1 l (.lst zs))
theorem pe_sortset {l : Expr} {tl : TE} {p p2 pos pos2 : Pos} (hu : X.A.units + 66 < cLine) (hc : X.calm = true) (hgl : Gl X "sorted") (hml : X.mg "sorted" = none) (hgr : Gl X "set") (hmr : X.mg "set" = none) (hl : PE X l tl)
    (hs : starEach [l] X.env = [(false, eval l X.env)] := by rfl) : PE X (.Call (.Name "sorted" p) [.Call (.Name "set" p2) [l] [] pos2] [] pos) (tSortSet X.K tl) := by
  intro pins s σ H Q I h
  refine Call_ (ld_blt I hgl hml boot_sorted15 (PyProof.Rows.callWith_builtin1 ?_ rfl rfl))
  show wpAny _ _ (spliced ((false, eval (.Call (.Name "set" p2) [l] [] pos2) X.env) :: backTo pos [])) _ _ s
  refine Calls.spliced_cons (Call_ (ld_blt I hgr hmr boot_set15 (PyProof.Rows.callWith_type1 ?_ hs rfl)))
  rw [hs]
  refine Calls.spliced_cons (thn (hl pins s σ H _ I h) fun u s1 ⟨x, H1, I1, r1, a, ys, kss, ex, hq, hk, hne, hz, q⟩ => Calls.spliced_nil ?_)
  subst ex
  cases (show u = Value.ref a from r1)
  obtain ⟨its, rv, t1, _⟩ := I1.list hq
  have il : its.length = ys.length := rv.length.symm
  have kl : ys.length = kss.length := Paired.length hk
  have tup : ∀ i, i < its.length -> ∃ b, ys.getD i .non = .ref b /\ its.getD i Value.none = .ref b /\ H1 b = some (.tup ((kss.getD i []).map V.int)) := fun i hi => by
    obtain ⟨ks, e, b, eb, hb⟩ := Paired.at hk (i := i) (a := ys[i]) (by simp [show i < ys.length by lia])
    obtain ⟨v, ev, rv2⟩ := rv.get (i := i) (x := ys[i]) (by simp [show i < ys.length by lia])
    rw [eb] at rv2
    refine ⟨b, by simp [show i < ys.length by lia, eb], ?_, ?_⟩
    · rw [List.getD_eq_getElem?_getD, ev]; exact rv2
    · rw [List.getD_eq_getElem?_getD, e]; exact hb
  have adx : ∃ ad : Nat -> Addr, ∀ i, i < its.length -> ys.getD i .non = .ref (ad i) /\ its.getD i Value.none = .ref (ad i) /\ H1 (ad i) = some (.tup ((kss.getD i []).map V.int)) :=
    ⟨fun i => if hi : i < its.length then Classical.choose (tup i hi) else 0, fun i hi => by dsimp only; rw [dif_pos hi]; exact Classical.choose_spec (tup i hi)⟩
  obtain ⟨ad, had⟩ := adx
  have tk : ∀ i, i < its.toArray.size -> TK X.prog X.w s1.heap (kss.getD i []) (ad i) := fun i hi => by
    obtain ⟨_, _, hb⟩ := had i (by simpa using hi)
    obtain ⟨_, us, ru, o, g, hcc, n, hd⟩ := I1.hok (ad i) _ hb
    refine ⟨o, us.toArray, n, g, hcc, hd, ?_⟩
    rw [List.toList_toArray]
    generalize kss.getD i [] = ks at ru
    have : ∀ {ks : List Int} {us : List Value}, Vals (ks.map V.int) us -> ItemsAre (intKind X.prog X.w) ks us := fun {ks} => by
      induction ks with
      | nil => intro us h; cases h; exact .nil
      | cons k ks ih =>
        intro us h
        cases h with
        | cons r t =>
          obtain ⟨tk, rfl⟩ := r
          exact .cons (intKind_is _ _ _ _) (ih t)
    exact this ru
  refine call_set_tups (val := fun i => kss.getD i []) (ad := ad) (by lia) (I.ok.hd hc) t1.isList (fun i hi => ?_) tk (by rw [List.size_toArray]; lia) fun h' tk' tb kk => Calls.spliced_nil ?_
  · have hi' : i < its.length := by simpa using hi
    have := (had i hi').2.1
    rw [<- this]
    simp [hi']
  have I2 : Inv X pins σ H1 { s1 with heap := h', toks := tk' } := I1.kept (t' := tk') fun b o e => kk b o (Heap.lt_size e) e
  have kl2 : its.toArray.size = kss.length := by rw [List.size_toArray]; lia
  rw [kl2] at tb
  have fm : ∀ k, k ∈ firstK (fun i => kss.getD i []) kss.length ↔ k ∈ kss := fun k => by
    rw [firstK_mem]
    constructor
    · rintro ⟨i, hi, rfl⟩
      simp [hi]
    · intro hk
      obtain ⟨i, hi, e⟩ := List.getElem_of_mem hk
      exact ⟨i, hi, by simp [hi, e]⟩
  refine sorted_setT (s := { s1 with heap := h', toks := tk' }) (I.ok.hd hc) tb (fun ks hk => hne ks ((fm ks).mp hk)) (by have := firstK_le (fun i => kss.getD i []) kss.length; lia) fun h2 tk2 l2 out mss e k2 fr he pm p2 p3 => ?_
  have val : ∃ zs, Vals zs out /\ Paired (IntsAt H1) zs mss := by
    clear p2 p3 he
    induction pm with
    | nil => exact ⟨[], .nil, .nil⟩
    | cons r _ ih =>
      obtain ⟨zs, a1, a2⟩ := ih
      obtain ⟨i, hi, rfl, rfl⟩ := r
      obtain ⟨_, _, hb⟩ := had i (by lia)
      exact ⟨.ref (ad i) :: zs, .cons rfl a1, .cons ⟨ad i, rfl, hb⟩ a2⟩
  obtain ⟨zs, a1, a2⟩ := val
  have nd : mss.Nodup := p2.nodup_iff.mpr (firstK_nd _ _)
  refine ⟨.ref l2, upd H1 l2 (.lst zs), I2.laid k2 fr ⟨?_, out, e, a1, he⟩, rfl, q l2 zs mss a2 (fun k => p2.mem_iff.trans (fm k)) nd p3 (I2.hok.fresh fr)⟩
  have := firstK_le (fun i => kss.getD i []) kss.length
  rw [Paired.length a2, p2.length_eq, sizeLine_eq]
  lia
end
end L2
namespace L2
open PySem PySem.W PyProof.Rows
section
variable {X : Cx}
def rCount : V -> List V -> Hp -> VK -> Prop := fun x vs H Q => ∃ (l : Addr) (ns : List Int) (k : Int), x = .ref l /\ vs = [.int k] /\ H l = some (.lst (ns.map V.int)) /\ Q (.int ((ns.count k : Nat) : Int)) H
theorem mt_count : MtR X "list.count" rCount := by
  intro pins s σ H x vs v us Q I rx rv h
  obtain ⟨l, ns, k, rfl, rfl, hH, q⟩ := h
  cases rx
  obtain ⟨u, rfl, t, rfl⟩ := rv.one
  obtain ⟨z, its, n, r, hl, e⟩ := I.lstM hH
  refine count_list_ints (vs := its) ⟨_, e, rfl, n, rfl⟩ (by simpa using intsAre_V r) ?_
  exact ⟨.int _, H, I.tok _, ⟨_, rfl⟩, q⟩
def rEqT (K : PySem.W.Frag) : R2 := fun x y H Q => ∃ (a b : Addr) (ks ms : List Int), x = .ref a /\ y = .ref b /\ SqT K H a (ks.map V.int) /\ SqT K H b (ms.map V.int) /\ Q (.bl (decide (ks = ms))) H
theorem op_eqT (hu : X.A.units + 66 < cLine) : OpR X (compareOp .Eq) (rEqT X.K) := by
  intro pins s σ H x y v u Q I rx ry h
  obtain ⟨a, b, ks, ms, rfl, rfl, ha, hb, q⟩ := h
  cases (show v = Value.ref a from rx)
  cases (show u = Value.ref b from ry)
  obtain ⟨its, r1, t1, _⟩ := I.tuple ha
  obtain ⟨its2, r2, t2, _⟩ := I.tuple hb
  have l1 : its.toArray.size = ks.length := by rw [List.size_toArray, <- r1.length, List.length_map]
  have l2 : its2.toArray.size = ms.length := by rw [List.size_toArray, <- r2.length, List.length_map]
  refine SeqAt.eq_tupleAt (e := fun i => decide (ks.getD i 0 = ms.getD i 0)) t1 t2 (by lia) (fun j h1 h2 => ?_) ?_
  · have i1 : j < ks.length := by lia
    have i2 : j < ms.length := by lia
    obtain ⟨v1, e1, p1⟩ := r1.get (i := j) (x := .int ks[j]) (by simp [i1])
    obtain ⟨v2, e2, p2⟩ := r2.get (i := j) (x := .int ms[j]) (by simp [i2])
    have w1 : its.toArray[j] = v1 := by have := List.getElem?_eq_some_iff.mp e1; simpa using this.2
    have w2 : its2.toArray[j] = v2 := by have := List.getElem?_eq_some_iff.mp e2; simpa using this.2
    rw [w1, w2]
    have := eqAt_V (A := X.A.in1) (s := s) p1 p2 rfl rfl
    rw [eqV_int] at this
    simpa [i1, i2] using this
  · rw [all_same 0 l1 l2]
    exact ⟨.bl _, H, I, rfl, q⟩
def rGetL (K : PySem.W.Frag) : V -> V -> Hp -> VK -> Prop := fun o i H Q => ∃ p xs k z, o = .ref p /\ i = .int k /\ SqL K H p xs /\ 0 <= k /\ xs[k.toNat]? = some z /\ Q z H
theorem get_listP : PGet X (rGetL X.K) := by
  intro pins s σ H o i ov iv Q I ro ri h
  obtain ⟨p, xs, k, z, rfl, rfl, hq, h0, he, q⟩ := h
  cases ro
  obtain ⟨t, rfl⟩ := ri
  obtain ⟨its, r, pl, hz⟩ := I.list hq
  obtain ⟨w, ew, rw'⟩ := r.get he
  have hl := r.length
  have hn := line63
  have lt := (List.getElem?_eq_some_iff.mp he).1
  exact wpAny_getItem_list pl.isList h0 (by lia) (by simpa using ew) ⟨z, H, I, rw', q⟩
end
end L2
namespace My
open PySem L2
def top (i : Nat) : Stmt := PySem.Challenge.pw_manycounts_k66_scores.main.body.getD i (.Pass ⟨0, 0, 0, 0⟩)
abbrev sIsWhole : Stmt := top 6
abbrev sWithin : Stmt := top 7
abbrev sMade : Stmt := top 11
abbrev sPair : Stmt := top 12
abbrev sLesser : Stmt := top 13
abbrev sWhole : Stmt := top 14
abbrev sPtg : Stmt := top 16
abbrev sLeadsOf : Stmt := top 17
abbrev sScoreOf : Stmt := top 19
abbrev sAllSc : Stmt := top 20
abbrev sPtgOf : Stmt := top 21
abbrev sAt : Stmt := top 23
abbrev sPts : Stmt := top 24
abbrev sTie : Stmt := top 25
abbrev sDrawn : Stmt := top 28
abbrev sLLeads : Stmt := top 29
abbrev sLPtg : Stmt := top 30
abbrev sLWh : Stmt := top 31
abbrev sLScore : Stmt := top 32
abbrev sAsked : Stmt := top 33
abbrev sRight : Stmt := top 34
abbrev sLaw : Stmt := top 35
def isWhole : V -> Bool
  | .int _ => true
  | _ => false
def isWithin (lo hi : Int) : V -> Bool
  | .int i => decide (lo <= i) && decide (i <= hi)
  | _ => false
def Plain (K : W.Frag) (H : Hp) (x : V) : Prop := ∃ t, TyOf K H x t /\ ∀ C, t ≠ .ref C
theorem plain_int (K : W.Frag) (H : Hp) (i : Int) : Plain K H (.int i) := ⟨_, .int i, fun _ z => nomatch z⟩
theorem kit_whole {K : W.Frag} {H : Hp} {x : V} {t : Value} (h : TyOf K H x t) (hn : ∀ C, t ≠ .ref C) :
    (PySem.W.kitOne K t (.type "int") = some false /\ isWhole x = false) \/ (PySem.W.kitOne K t (.type "int") = some true /\ ∃ b, PySem.W.kitOne K t (.type "bool") = some b /\ isWhole x = !b) := by
  cases h with
  | non => exact .inl ⟨by first | rfl | decide +kernel, rfl⟩
  | bl b => exact .inr ⟨by first | rfl | decide +kernel, true, by rfl, rfl⟩
  | int i => exact .inr ⟨by rfl, false, by first | rfl | decide +kernel, rfl⟩
  | str x => exact .inl ⟨by first | rfl | decide +kernel, rfl⟩
  | flt x => exact .inl ⟨by first | rfl | decide +kernel, rfl⟩
  | lst e => exact .inl ⟨by first | rfl | decide +kernel, rfl⟩
  | frz e => exact .inl ⟨by first | rfl | decide +kernel, rfl⟩
  | tup e => exact .inl ⟨by first | rfl | decide +kernel, rfl⟩
  | dK e => exact .inl ⟨by first | rfl | decide +kernel, rfl⟩
  | dT e => exact .inl ⟨by first | rfl | decide +kernel, rfl⟩
  | ins => exact absurd rfl (hn _)
theorem kit_tuple {K : W.Frag} {H : Hp} {x : V} {t : Value} (h : TyOf K H x t) (hn : ∀ C, t ≠ .ref C) :
    (PySem.W.kitOne K t (.type "tuple") = some false /\ t ≠ .type "tuple") \/ (PySem.W.kitOne K t (.type "tuple") = some true /\ ∃ a xs, x = .ref a /\ H a = some (.tup xs)) := by
  cases h with
  | non => exact .inl ⟨by first | rfl | decide +kernel, by decide +kernel⟩
  | bl b => exact .inl ⟨by first | rfl | decide +kernel, by decide +kernel⟩
  | int i => exact .inl ⟨by first | rfl | decide +kernel, by decide +kernel⟩
  | str x => exact .inl ⟨by first | rfl | decide +kernel, by decide +kernel⟩
  | flt x => exact .inl ⟨by first | rfl | decide +kernel, by decide +kernel⟩
  | lst e => exact .inl ⟨by first | rfl | decide +kernel, by decide +kernel⟩
  | frz e => exact .inl ⟨by first | rfl | decide +kernel, by decide +kernel⟩
  | tup e => exact .inr ⟨by rfl, _, _, rfl, e⟩
  | dK e => exact .inl ⟨by first | rfl | decide +kernel, by decide +kernel⟩
  | dT e => exact .inl ⟨by first | rfl | decide +kernel, by decide +kernel⟩
  | ins => exact absurd rfl (hn _)
def TieAt (H : Hp) (v : V) (p : Int × Int) : Prop := ∃ a, v = .ref a /\ H a = some (.tup [.int p.1, .int p.2])
theorem TieAt.same {H H' : Hp} {v : V} {p : Int × Int} (h : TieAt H v p) (e : Same H H') : TieAt H' v p := let ⟨a, h1, h2⟩ := h; ⟨a, h1, e _ _ h2⟩
theorem ties_same {H H' : Hp} {xs : List V} {ps : List (Int × Int)} (h : Paired (TieAt H) xs ps) (e : Same H H') : Paired (TieAt H') xs ps := L2.Paired.mapP h fun _ _ q => q.same e
def norm (p : Int × Int) : Int × Int := if p.1 <= p.2 then (p.1, p.2) else (p.2, p.1)
structure WebAt (H : Hp) (w : V) (n : Int) (ps : List (Int × Int)) : Prop where
  ex : ∃ c d xs, w = .ref c /\ H c = some (.tup [.int n, .ref d]) /\ H d = some (.tup xs) /\ Paired (TieAt H) xs ps
theorem WebAt.same {H H' : Hp} {w : V} {n : Int} {ps : List (Int × Int)} (h : WebAt H w n ps) (e : Same H H') : WebAt H' w n ps := by
  obtain ⟨c, d, xs, h1, h2, h3, h4⟩ := h.ex
  exact ⟨c, d, xs, h1, e _ _ h2, e _ _ h3, ties_same h4 e⟩
inductive PairSays (K : W.Frag) (H : Hp) (n : Int) : V -> Bool -> Prop
  | no {x : V} {t : Value} (h : TyOf K H x t) (hr : ∀ C, t ≠ .ref C) (ht : t ≠ .type "tuple") : PairSays K H n x false
  | len {a : Addr} {xs : List V} (h : H a = some (.tup xs)) (hl : xs.length ≠ 2) : PairSays K H n (.ref a) false
  | two {a : Addr} {x y : V} (h : H a = some (.tup [x, y])) (hx : Plain K H x) (hy : Plain K H y) : PairSays K H n (.ref a) (isWithin 0 (n - 1) x && isWithin 0 (n - 1) y)
def spWhole (K : W.Frag) : Sp := fun vs H Q _ => ∃ x, vs = [x] /\ Plain K H x /\ Q (.bl (isWhole x)) H
def spWithin (K : W.Frag) : Sp := fun vs H Q _ => ∃ x lo hi, vs = [x, .int lo, .int hi] /\ Plain K H x /\ Q (.bl (isWithin lo hi x)) H
def spPair (K : W.Frag) : Sp := fun vs H Q _ => ∃ x n b, vs = [x, .int n] /\ PairSays K H n x b /\ ∀ H', Same H H' -> Q (.bl b) H'
def spLesser : Sp := fun vs H Q _ => ∃ a b, vs = [.int a, .int b] /\ ∀ c, H c = none -> Q (.ref c) (upd H c (.tup [.int (norm (a, b)).1, .int (norm (a, b)).2]))
def spMade (K : W.Frag) : Sp := fun vs H Q _ => ∃ (k : Kd) (a : Addr) (n : Int) (xs : List V) (ps : List (Int × Int)), vs = [.int n, .ref a] /\ 1 <= n /\ n <= 9 /\ SqK k K H a xs /\ Paired (TieAt H) xs ps /\ ps.length <= 8 /\
  (∀ p ∈ ps, 0 <= p.1 /\ p.1 < n /\ 0 <= p.2 /\ p.2 < n) /\ ∀ w H', Same H H' -> WebAt H' w n (ps.map norm) -> Q w H'
structure Txt (K : W.Frag) (mg : Str -> Option Value) : Prop where
  isi : mg "isinstance" = none
  int : mg "int" = none
  bool : mg "bool" = none
  len : mg "len" = none
  enum : mg "enumerate" = none
  tuple : mg "tuple" = none
  all : mg "all" = none
  list : mg "list" = none
  zip : mg "zip" = none
  min : mg "min" = none
  max : mg "max" = none
  range : mg "range" = none
  mp : ∃ t, mg "MOST_POINTS" = some (.int 9 t)
  mt : ∃ t, mg "MOST_TIES" = some (.int 8 t)
section
variable {P : Program} {w : World} {K : W.Frag} {mg : Str -> Option Value} {base : Heap}
theorem boot_isi : bootBuiltins "isinstance" = some (.builtin "isinstance") := by first | rfl | decide +kernel
theorem boot_int' : bootBuiltins "int" = some (.type "int") := by first | rfl | decide +kernel
theorem boot_bool' : bootBuiltins "bool" = some (.type "bool") := by first | rfl | decide +kernel
theorem boot_tuple' : bootBuiltins "tuple" = some (.type "tuple") := by first | rfl | decide +kernel
theorem boot_list' : bootBuiltins "list" = some (.type "list") := by first | rfl | decide +kernel
theorem boot_all' : bootBuiltins "all" = some (.builtin "all") := by first | rfl | decide +kernel
theorem boot_min' : bootBuiltins "min" = some (.builtin "min") := by first | rfl | decide +kernel
theorem boot_max' : bootBuiltins "max" = some (.builtin "max") := by first | rfl | decide +kernel
theorem scWhole : FnScope ["thing"] ["thing"] (defScope sIsWhole) := ⟨rfl, rfl, rfl, by decide +kernel, rfl, by decide +kernel, by decide +kernel⟩
theorem d_whole (T : Txt K mg) (S : Src K mg "is_whole" sIsWhole ["thing"]) : Def P w K mg base 1 "is_whole" ["thing"] (spWhole K) := by
  refine S.def scWhole (fun vs H Q E h => ?_) (fun f cdv A outer s H vs Q E hr h => ?_)
  · obtain ⟨x, rfl, _⟩ := h; rfl
  · obtain ⟨x, rfl, ⟨t, ty, hn⟩, q⟩ := h
    refine ⟨_, pss_one (ps_ret (pe_and (pe_callB (call_isiK K) (by rfl) T.isi boot_isi (pa_cons (pv 0) (pa_cons (pe_bltn (v := .ty "int") rfl T.int boot_int' rfl) pa_nil)))
      (pe_one (pe_not (pe_callB (call_isiK K) (by rfl) T.isi boot_isi (pa_cons (pv 0) (pa_cons (pe_bltn (v := .ty "bool") rfl T.bool boot_bool' rfl) pa_nil))))))), ?_⟩
    rcases kit_whole ty hn with ⟨e1, e2⟩ | ⟨e1, b, e2, e3⟩
    · rw [e2] at q
      exact ⟨_, rfl, _, _, _, _, _, rfl, rfl, ty, e1, _, rfl, iteF q⟩
    · rw [e3] at q
      exact ⟨_, rfl, _, _, _, _, _, rfl, rfl, ty, e1, _, rfl, iteT ⟨_, rfl, _, _, _, _, _, rfl, rfl, ty, e2, _, rfl, q⟩⟩
theorem scWithin : FnScope ["thing", "least", "greatest"] ["thing", "least", "greatest"] (defScope sWithin) := ⟨rfl, rfl, rfl, by decide +kernel, rfl, by decide +kernel, by decide +kernel⟩
theorem d_within (T : Txt K mg) (S : Src K mg "is_whole_within" sWithin ["thing", "least", "greatest"]) (D : Def P w K mg base 1 "is_whole" ["thing"] (spWhole K)) : Def P w K mg base 2 "is_whole_within" ["thing", "least", "greatest"] (spWithin K) := by
  refine S.def scWithin (fun vs H Q E h => ?_) (fun f cdv A outer s H vs Q E hr h => ?_)
  · obtain ⟨x, lo, hi, rfl, _⟩ := h; rfl
  · obtain ⟨x, lo, hi, rfl, hp, q⟩ := h
    refine ⟨_, pss_one (ps_ret (pe_and (pe_def D hr rfl (pa_cons (pv 0) pa_nil)) (pe_one (pe_chain op_le op_le (pv 1) (pv 0) (pv 2))))), ?_⟩
    refine ⟨_, rfl, _, rfl, hp, _, rfl, ?_⟩
    cases hw : isWhole x with
    | false =>
      have e : isWithin lo hi x = false := by cases x <;> first | rfl | (simp [isWhole] at hw)
      rw [e] at q
      exact iteF q
    | true =>
      obtain ⟨i, rfl⟩ : ∃ i, x = .int i := by cases x <;> first | exact ⟨_, rfl⟩ | (simp [isWhole] at hw)
      refine iteT ⟨_, rfl, _, rfl, _, _, rfl, rfl, _, rfl, ?_⟩
      have e : isWithin lo hi (.int i) = (decide (lo <= i) && decide (i <= hi)) := rfl
      rw [e] at q
      cases h1 : decide (lo <= i) with
      | false => rw [h1] at q; exact iteF q
      | true => rw [h1] at q; exact iteT ⟨_, rfl, _, _, rfl, rfl, q⟩
theorem scLesser : FnScope ["a", "b"] ["a", "b"] (defScope sLesser) := ⟨rfl, rfl, rfl, by decide +kernel, rfl, by decide +kernel, by decide +kernel⟩
theorem d_lesser (S : Src K mg "lesser_first" sLesser ["a", "b"]) : Def P w K mg base 1 "lesser_first" ["a", "b"] spLesser := by
  refine S.def scLesser (fun vs H Q E h => ?_) (fun f cdv A outer s H vs Q E hr h => ?_)
  · obtain ⟨a, b, rfl, _⟩ := h; rfl
  · obtain ⟨a, b, rfl, q⟩ := h
    refine ⟨_, pss_one (ps_ret (pe_ifExp (pt_cmpR op_le (pv 0) (pv 1) (nomark _)) (pe_tup (pa_cons (pv 0) (pa_cons (pv 1) pa_nil))) (pe_tup (pa_cons (pv 1) (pa_cons (pv 0) pa_nil))))), ?_⟩
    refine ⟨_, rfl, _, rfl, _, _, rfl, rfl, _, rfl, ?_⟩
    by_cases hab : a <= b
    · have e : norm (a, b) = (a, b) := by simp [norm, hab]
      rw [e] at q
      rw [decide_eq_true hab]
      exact iteT ⟨_, rfl, _, rfl, by show 2 <= sizeLine; decide, q⟩
    · have e : norm (a, b) = (b, a) := by simp [norm, hab]
      rw [e] at q
      rw [decide_eq_false hab]
      exact iteF ⟨_, rfl, _, rfl, by show 2 <= sizeLine; decide, q⟩
theorem scPair : FnScope ["thing", "points"] ["thing", "points"] (defScope sPair) := ⟨rfl, rfl, rfl, by decide +kernel, rfl, by decide +kernel, by decide +kernel⟩
theorem ty_tup {K : W.Frag} {H : Hp} {a : Addr} {xs : List V} (h : H a = some (.tup xs)) : TyOf K H (.ref a) (.type "tuple") := .tup h
theorem k_tuple (K : W.Frag) : PySem.W.kitOne K (.type "tuple") (.type "tuple") = some true := by rfl
theorem d_pair (T : Txt K mg) (S : Src K mg "is_pair_of_points" sPair ["thing", "points"]) (D : Def P w K mg base 2 "is_whole_within" ["thing", "least", "greatest"] (spWithin K)) : Def P w K mg base 3 "is_pair_of_points" ["thing", "points"] (spPair K) := by
  refine S.def scPair (fun vs H Q E h => ?_) (fun f cdv A outer s H vs Q E hr h => ?_)
  · obtain ⟨x, n, b, rfl, _⟩ := h; rfl
  · obtain ⟨x, n, b, rfl, hp, q⟩ := h
    refine ⟨_, pss_cons (ps_if (PW.pt (pw_or (pt_not (pt_val (pe_callB (call_isiK K) (by rfl) T.isi boot_isi (pa_cons (pv 0) (pa_cons (pe_bltn (v := .ty "tuple") rfl T.tuple boot_tuple' rfl) pa_nil)))))
        (pw_or1 (pt_cmpR op_ne (pe_callB (call_lenK K) (by rfl) T.len PySem.boot_len (pa_cons (pv 0) pa_nil)) pe_int (nomark _))))) (pss_one (ps_ret pe_bl)) pss_nil)
      (pss_one (ps_ret (pe_callB (call_all rfl) (by rfl) T.all boot_all' (pa_cons (pe_comp (N' := ["end", "points"]) (fr := [none, some 1]) (compOk_of (by rfl)) rfl (pi_seqK K .t (pv 0)) (fun _ _ _ _ => pg_name (i := 0) (show (["end", "points"] : List Str).Nodup by decide +kernel) rfl (Or.inl rfl) (Or.inr rfl)) (fun _ _ _ _ => pifs_nil)
        (fun _ _ _ _ => pe_def D hr rfl (pa_cons (pv 0) (pa_cons pe_int (pa_cons (pe_op op_sub (pv 1) pe_int) pa_nil))))) pa_nil)))), ?_⟩
    cases hp with
    | no ty hr' ht =>
      rcases kit_tuple ty hr' with ⟨e1, _⟩ | ⟨_, a, xs, rfl, e⟩
      · exact ⟨_, rfl, _, _, _, _, _, rfl, rfl, ty, e1, _, rfl, iteT (iteT (q H (Same.refl H)))⟩
      · exfalso
        cases ty with
        | tup _ => exact ht rfl
        | ins => exact hr' _ rfl
        | lst e' => rw [e] at e'; cases e'
        | frz e' => rw [e] at e'; cases e'
        | dK e' => rw [e] at e'; cases e'
        | dT e' => rw [e] at e'; cases e'
    | @len a xs h hl =>
      refine ⟨_, rfl, _, _, _, _, _, rfl, rfl, ty_tup h, k_tuple K, _, rfl, iteF ⟨_, rfl, _, _, rfl, .inr (SqT.of h), rfl, _, rfl, ?_⟩⟩
      have e : (!decide (V.int (xs.length : Int) = V.int 2)) = true := by
        have : ¬ (V.int (xs.length : Int) = V.int 2) := fun z => by injection z with z; omega
        simp [this]
      rw [e]
      exact iteT (q H (Same.refl H))
    | @two a x y h hx hy =>
      refine ⟨_, rfl, _, _, _, _, _, rfl, rfl, ty_tup h, k_tuple K, _, rfl, iteF ⟨_, rfl, _, _, rfl, .inr (SqT.of h), rfl, _, rfl, iteNS rfl ?_⟩⟩
      refine ⟨_, rfl, a, rfl, ⟨_, SqT.of h⟩, comp_seq (k := .t) (a := a) (xs := [x, y]) (fun σ => ∃ v, σ = [v, some (.int n)]) (fun i ys H' => H' = H /\ ys = ([x, y].take i).map fun v => V.bl (isWithin 0 (n - 1) v)) ⟨_, rfl⟩ ⟨rfl, rfl⟩ (by show 2 < sizeLine; decide) ?_ ?_ ?_⟩
      · rintro i ys H' _ ⟨rfl, _⟩
        exact SqT.of h
      · rintro i v ys σ H' N hv ⟨u, rfl⟩ ⟨rfl, rfl⟩ hN
        have pl : Plain K H' v := by
          match i with
          | 0 => simp at hv; rw [<- hv]; exact hx
          | 1 => simp at hv; rw [<- hv]; exact hy
          | j + 2 => simp at hv
        dsimp only [gName, List.set]
        refine yesT ?_
        refine ⟨_, rfl, _, rfl, _, _, rfl, rfl, _, _, _, rfl, pl, ?_⟩
        refine hN _ _ _ ⟨_, rfl⟩ ⟨rfl, ?_⟩ (by simp)
        rw [take_succ_of hv, List.map_append]
        rfl
      · rintro ys H' ⟨rfl, rfl⟩ p hp
        refine ⟨p, [isWithin 0 (n - 1) x, isWithin 0 (n - 1) y], rfl, SqL.of upd_same, ?_⟩
        have e : ([isWithin 0 (n - 1) x, isWithin 0 (n - 1) y].all id) = (isWithin 0 (n - 1) x && isWithin 0 (n - 1) y) := by simp
        rw [e]
        exact q _ (Same.new hp)
theorem scMade : FnScope ["points", "ties", "at", "tie"] ["points", "ties"] (defScope sMade) := ⟨rfl, rfl, rfl, by decide +kernel, rfl, by decide +kernel, by decide +kernel⟩
theorem len_le_sizeLine {n : Nat} (h : n <= 8) : n < sizeLine := Nat.lt_of_le_of_lt h (by decide)
theorem within_true {i lo hi : Int} (h1 : lo <= i) (h2 : i <= hi) : isWithin lo hi (.int i) = true := by
  show (decide (lo <= i) && decide (i <= hi)) = true
  simp [h1, h2]
theorem d_made (T : Txt K mg) (S : Src K mg "made_web" sMade ["points", "ties"]) (DW : Def P w K mg base 2 "is_whole_within" ["thing", "least", "greatest"] (spWithin K))
    (DP : Def P w K mg base 3 "is_pair_of_points" ["thing", "points"] (spPair K)) (DL : Def P w K mg base 1 "lesser_first" ["a", "b"] spLesser) : Def P w K mg base 4 "made_web" ["points", "ties"] (spMade K) := by
  refine S.def scMade (fun vs H Q E h => ?_) (fun f cdv A outer s H vs Q E hr h => ?_)
  · obtain ⟨k, a, n, xs, ps, rfl, _⟩ := h; rfl
  · obtain ⟨k, a, n, xs, ps, rfl, n1, n2, hq, hp, hl, hb, q⟩ := h
    obtain ⟨tp, mpe⟩ := T.mp
    obtain ⟨tt, mte⟩ := T.mt
    have hr1 : Room 1 _ := hr.mono (by decide)
    have hr2 : Room 2 _ := hr.mono (by decide)
    have xl : xs.length = ps.length := Paired.length hp
    refine ⟨_, pss_cons (ps_if (pt_not (pt_val (pe_def DW hr2 rfl (pa_cons (pv 0) (pa_cons pe_int (pa_cons (pe_glob (v := .int 9) rfl mpe ⟨_, rfl⟩) pa_nil)))))) pss_never pss_nil)
      (pss_cons (ps_if (pt_cmpR op_gt (pe_callB (call_lenK K) (by rfl) T.len PySem.boot_len (pa_cons (pv 1) pa_nil)) (pe_glob (v := .int 8) rfl mte ⟨_, rfl⟩) (nomark _)) pss_never pss_nil)
      (pss_cons (ps_for PassesOwn.never rfl (pi_enumK K k rfl T.enum (pa_cons (pv 1) pa_nil)) (pg_tupK K 2 rfl (pgs_cons (pg_name (i := 2) scMade.nd rfl (Or.inl rfl)) (pgs_cons (pg_name (i := 3) scMade.nd rfl (Or.inl rfl)) pgs_nil)))
        (pss_one (ps_if (pt_not (pt_val (pe_def DP hr rfl (pa_cons (pv 3) (pa_cons (pv 0) pa_nil))))) pss_never pss_nil)))
      (pss_one (ps_ret (pe_tup (pa_cons (pv 0) (pa_cons (pe_callTy (call_tuple_ofK K) rfl T.tuple boot_tuple' (pa_cons (pe_comp (N' := ["tie"]) (fr := [none]) (compOk_of (by rfl)) rfl (pi_seqK K k (pv 1))
        (fun _ _ _ _ => pg_name (i := 0) (show (["tie"] : List Str).Nodup by decide +kernel) rfl (Or.inl rfl) (Or.inr rfl)) (fun _ _ _ _ => pifs_nil)
        (fun _ _ _ _ => pe_def DL hr1 rfl (pa_cons (pe_ix (r := rIxT K) (ix_tupK K) (pv 0) pe_int (fun _ _ => rfl)) (pa_cons (pe_ix (r := rIxT K) (ix_tupK K) (pv 0) pe_int (fun _ _ => rfl)) pa_nil)))) pa_nil)) pa_nil))))))), ?_⟩
    refine ⟨_, rfl, _, _, _, rfl, plain_int K H n, _, rfl, ?_⟩
    rw [within_true n1 n2]
    refine iteF ?_
    refine ⟨_, rfl, _, _, rfl, hq.or, _, _, rfl, rfl, _, rfl, ?_⟩
    rw [decide_eq_false (show ¬ ((8 : Int) < (xs.length : Int)) by omega)]
    refine iteF ?_
    refine ⟨_, rfl, a, xs, rfl, hq, for_enum (k := k) (K := K) (a := a) (xs := xs) (fun i σ H' => (∃ u v, σ = [some (.int n), some (.ref a), u, v]) /\ Same H H') ⟨⟨_, _, rfl⟩, Same.refl H⟩ (fun i σ H' _ z => z.2.seqK hq) ?_ ?_⟩
    · rintro i x p σ H' hx ⟨⟨u, v, rfl⟩, sm⟩ hp'
      obtain ⟨pr, e1, c, rfl, hc⟩ := Paired.at hp hx
      have sm1 : Same H (upd H' p (.tup [.int i, .ref c])) := sm.trans (Same.new hp')
      refine ⟨p, _, rfl, SqT.of upd_same, rfl, _, _, rfl, _, _, rfl, rfl, ?_⟩
      obtain ⟨b1, b2, b3, b4⟩ := hb pr (List.mem_of_getElem? e1)
      refine ⟨_, rfl, _, rfl, _, n, _, rfl, .two (sm1 _ _ hc) (plain_int K _ _) (plain_int K _ _), fun H2 sm2 => ?_⟩
      rw [within_true b1 (by omega), within_true b3 (by omega)]
      exact ⟨_, rfl, iteF ⟨⟨_, _, rfl⟩, sm1.trans sm2⟩⟩
    · rintro σ H' ⟨⟨u, v, rfl⟩, sm⟩
      refine ⟨_, rfl, _, rfl, a, rfl, ⟨xs, sm.seqK hq⟩, comp_seq (k := k) (a := a) (xs := xs) (fun σ => ∃ v, σ = [v]) (fun i ys H2 => Same H H2 /\ Paired (TieAt H2) ys ((ps.take i).map norm)) ⟨_, rfl⟩ ⟨sm, .nil⟩ (len_le_sizeLine (by omega)) (fun i ys H2 _ z => z.1.seqK hq) ?_ ?_⟩
      · rintro i x ys σ H2 N hx ⟨u, rfl⟩ ⟨sm2, hy⟩ hN
        obtain ⟨pr, e1, c, rfl, hc⟩ := Paired.at hp hx
        dsimp only [gName, List.set]
        refine yesT ?_
        have hc2 := sm2 _ _ hc
        refine ⟨_, rfl, c, _, _, _, rfl, rfl, SqT.of hc2, atI_nat (j := 0) rfl, _, rfl, c, _, _, _, rfl, rfl, SqT.of hc2, atI_nat (j := 1) rfl, _, _, rfl, fun d hd => ?_⟩
        refine hN _ _ _ ⟨_, rfl⟩ ⟨sm2.trans (Same.new hd), ?_⟩ (by simp)
        rw [take_succ_of e1, List.map_append]
        exact L2.Paired.snoc (ties_same hy (Same.new hd)) ⟨d, rfl, upd_same⟩
      · rintro ys H2 ⟨sm2, hy⟩ p hp2
        have e2 : ps.take xs.length = ps := by rw [xl]; exact List.take_length
        rw [e2] at hy
        refine ⟨p, ys, rfl, .inl ⟨SqL.of upd_same, fun l hl2 => ⟨by show 2 <= sizeLine; decide, fun c hc => ?_⟩⟩⟩
        have s1 : Same H2 (upd H2 p (.lst ys)) := Same.new hp2
        have s2 := Same.new (o := HO.tup ys) hl2
        have s3 := Same.new (o := HO.tup [.int n, .ref l]) hc
        refine q _ _ (sm2.trans (s1.trans (s2.trans s3))) ⟨c, l, ys, rfl, upd_same, s3 _ _ upd_same, ties_same hy (s1.trans (s2.trans s3))⟩
end
def InN (n : Int) (p : Int × Int) : Prop := 0 <= p.1 /\ p.1 < n /\ 0 <= p.2 /\ p.2 < n
theorem mod_in (a n : Int) (h : 0 < n) : 0 <= a % n /\ a % n < n := ⟨Int.emod_nonneg _ (by omega), Int.emod_lt_of_pos _ h⟩
theorem cut_map (ns : List Int) (lo hi : Option Int) : ∃ ms : List Int, cutV (ns.map V.int) lo hi = ms.map V.int /\ ms.length <= ns.length := by
  refine ⟨(ns.drop (HT.sIx (ns.map V.int).length 0 lo)).take (HT.sIx (ns.map V.int).length (ns.map V.int).length hi - HT.sIx (ns.map V.int).length 0 lo), ?_, ?_⟩
  · unfold cutV
    rw [List.map_take, List.map_drop]
  · rw [List.length_take, List.length_drop]; omega
theorem same_tie {K : W.Frag} {H : Hp} {a b : Addr} {x y : Int} (h1 : H a = some (.tup [.int x, .int y])) (h2 : H b = some (.tup [.int x, .int y])) : SameD K H 1 (.ref a) (.ref b) := by
  refine .tup (SqT.of h1) (SqT.of h2) rfl fun i u v e1 e2 => ?_
  rw [e1] at e2
  cases e2
  match i with
  | 0 => simp at e1; rw [<- e1]; exact .flat rfl
  | 1 => simp at e1; rw [<- e1]; exact .flat rfl
  | j + 2 => simp at e1
theorem same_web {K : W.Frag} {H : Hp} {v u : V} {n : Int} {ps : List (Int × Int)} (h1 : WebAt H v n ps) (h2 : WebAt H u n ps) {Q : VK} {out : Bool} (q : Q (.bl out) H) : rSame K out v u H Q := by
  obtain ⟨c, d, xs, rfl, c1, d1, t1⟩ := h1.ex
  obtain ⟨c', d', xs', rfl, c2, d2, t2⟩ := h2.ex
  have l1 := Paired.length t1
  have l2 := Paired.length t2
  refine ⟨c, c', _, _, 2, rfl, rfl, .inl ⟨SqT.of c1, SqT.of c2⟩, rfl, by decide, fun i x y e1 e2 => ?_, q⟩
  match i with
  | 0 => simp at e1 e2; rw [<- e1, <- e2]; exact .flat rfl
  | 1 =>
    simp at e1 e2
    rw [<- e1, <- e2]
    refine .tup (SqT.of d1) (SqT.of d2) (by omega) fun j x y f1 f2 => ?_
    obtain ⟨p1, g1, a1, rfl, b1⟩ := Paired.at t1 f1
    obtain ⟨p2, g2, a2, rfl, b2⟩ := Paired.at t2 f2
    rw [g1] at g2
    cases g2
    exact same_tie b1 b2
  | j + 2 => simp at e1
theorem norm_id {p : Int × Int} (h : p.1 <= p.2) : norm p = p := by unfold norm; rw [if_pos h]
end My
namespace My
inductive Rch (L : List (Int × Int)) : Int -> Int -> Prop
  | refl (x : Int) : Rch L x x
  | step {x y z : Int} (h : Rch L x y) (e : (y, z) ∈ L) : Rch L x z
def Ringless (L : List (Int × Int)) : Prop := ∀ p ∈ L, ¬ Rch L p.2 p.1
def Ringed (L : List (Int × Int)) : Prop := ∀ p ∈ L, Rch L p.2 p.1
open Classical in
noncomputable def ringlessB (L : List (Int × Int)) : Bool := decide (Ringless L)
open Classical in
noncomputable def ringedB (L : List (Int × Int)) : Bool := decide (Ringed L)
open Classical in
open Classical in
def ledP (L : List (Int × Int)) (l : List Int) : List Int := (L.filter fun q => decide (q.1 ∈ l)).map (·.2)
def nextP (L : List (Int × Int)) (l : List Int) : List Int := l.filter fun p => decide (p ∈ ledP L l)
def leftF (L : List (Int × Int)) (l : List Int) : Nat -> List Int
  | 0 => l
  | k + 1 => nextP L (leftF L l k)
open Classical in
def allW : Nat -> List (List Int)
  | 0 => [[]]
  | m + 1 => (allW m).flatMap fun p => [p ++ [0], p ++ [1]]
def leadsP (ps : List (Int × Int)) (w : List Int) : List (Int × Int) := List.zipWith (fun p b => if b = 0 then p else (p.2, p.1)) ps w
def bitsN (m j : Nat) : List Int := (List.range m).map fun k => if j.testBit (m - 1 - k) then 1 else 0
theorem bits_all : ∀ m ∈ ([0, 1, 2, 3, 4, 5, 6, 7, 8] : List Nat), (List.range (2 ^ m)).map (bitsN m) = allW m := by decide +kernel
theorem allW_len : ∀ m, (allW m).length = 2 ^ m
  | 0 => rfl
  | m + 1 => by
    have : ∀ l : List (List Int), (l.flatMap fun p => [p ++ [0], p ++ [1]]).length = 2 * l.length := by
      intro l
      induction l with
      | nil => rfl
      | cons a l ih => rw [List.flatMap_cons, List.length_append, ih, List.length_cons]; simp; omega
    show ((allW m).flatMap fun p => [p ++ [0], p ++ [1]]).length = _
    rw [this, allW_len m, Nat.pow_succ]
    omega
theorem mem_allW : ∀ {m : Nat} {w : List Int}, w ∈ allW m ↔ w.length = m /\ ∀ x ∈ w, x = 0 \/ x = 1
  | 0, w => by
    show w ∈ [[]] ↔ _
    rw [List.mem_singleton]
    constructor
    · rintro rfl; exact ⟨rfl, fun _ z => nomatch z⟩
    · intro h; exact List.length_eq_zero_iff.mp h.1
  | m + 1, w => by
    show w ∈ (allW m).flatMap (fun p => [p ++ [0], p ++ [1]]) ↔ _
    rw [List.mem_flatMap]
    constructor
    · rintro ⟨p, hp, hw⟩
      obtain ⟨pl, pb⟩ := mem_allW.mp hp
      have hw : w = p ++ [0] \/ w = p ++ [1] := by simpa using hw
      rcases hw with rfl | rfl
      · refine ⟨by simp [pl], fun x hx => ?_⟩
        rcases List.mem_append.mp hx with z | z
        · exact pb x z
        · exact .inl (List.mem_singleton.mp z)
      · refine ⟨by simp [pl], fun x hx => ?_⟩
        rcases List.mem_append.mp hx with z | z
        · exact pb x z
        · exact .inr (List.mem_singleton.mp z)
    · rintro ⟨wl, wb⟩
      have ne : w ≠ [] := fun z => by rw [z] at wl; cases wl
      have e := List.dropLast_concat_getLast ne
      refine ⟨w.dropLast, mem_allW.mpr ⟨by rw [List.length_dropLast, wl]; rfl, fun x hx => wb x (List.dropLast_subset _ hx)⟩, ?_⟩
      rcases wb _ (List.getLast_mem ne) with z | z
      · rw [z] at e
        have : w = w.dropLast ++ [0] := e.symm
        simp only [List.mem_cons]
        exact .inl this
      · rw [z] at e
        have : w = w.dropLast ++ [1] := e.symm
        simp only [List.mem_cons]
        exact .inr (.inl this)
theorem leadsP_len {ps : List (Int × Int)} {w : List Int} (h : w.length = ps.length) : (leadsP ps w).length = ps.length := by unfold leadsP; rw [List.length_zipWith]; omega
theorem leadsP_get {ps : List (Int × Int)} {w : List Int} {i : Nat} {p : Int × Int} {b : Int} (h1 : ps[i]? = some p) (h2 : w[i]? = some b) : (leadsP ps w)[i]? = some (if b = 0 then p else (p.2, p.1)) := by
  unfold leadsP
  rw [List.getElem?_zipWith, h1, h2]
end My
namespace My
open PySem L2
theorem boot_range' : bootBuiltins "range" = some (.type "range") := by first | rfl | decide +kernel
def ups (n : Int) : List Int := (List.range n.toNat).map fun (i : Nat) => (i : Int)
theorem upN_ups (n : Nat) : upN n = (ups n).map V.int := by
  unfold upN ups
  rw [List.map_map, Int.toNat_natCast]
  rfl
theorem ups_len (n : Int) : (ups n).length = n.toNat := by unfold ups; simp
theorem ups_get {n : Nat} {i : Nat} (h : i < n) : (ups n)[i]? = some (i : Int) := by
  unfold ups
  rw [Int.toNat_natCast]
  simp [h]
def WebOk (n : Int) (ps : List (Int × Int)) : Prop := (1 <= n /\ n <= 9) /\ (∀ p ∈ ps, InN n p) /\ ps.length <= 8
theorem line300 {n : Nat} (h : n <= 300) : n < sizeLine := Nat.lt_of_le_of_lt h (by decide)
theorem ten_line {n : Nat} (h : n <= 10) : n < sizeLine := Nat.lt_of_le_of_lt h (by decide)
theorem dec_int (a b : Int) : decide (V.int a = V.int b) = decide (a = b) := by
  rw [decide_eq_decide]
  exact ⟨fun z => by injection z, fun z => by rw [z]⟩
def TupAt (H : Hp) (v : V) (p : List Int) : Prop := ∃ a, v = .ref a /\ H a = some (.tup (p.map V.int))
theorem TupAt.same {H H' : Hp} {v : V} {p : List Int} (h : TupAt H v p) (e : Same H H') : TupAt H' v p := let ⟨a, h1, h2⟩ := h; ⟨a, h1, e _ _ h2⟩
theorem tups_same {H H' : Hp} {xs : List V} {ps : List (List Int)} (h : Paired (TupAt H) xs ps) (e : Same H H') : Paired (TupAt H') xs ps := L2.Paired.mapP h fun _ _ q => q.same e
theorem put_fresh {H H2 : Hp} {g : Addr} {o : HO} (s : Same H H2) (h : H g = none) : Same H (upd H2 g o) := fun b u e => by rw [upd_ne (ne_of_none e h)]; exact s b u e
theorem was_none {H H' : Hp} {l : Addr} (s : Same H H') (h : H' l = none) : H l = none := by
  cases e : H l with
  | none => rfl
  | some o => exact absurd (s _ _ e) (by rw [h]; intro z; cases z)
theorem tups_putl {H : Hp} {l : Addr} {ys zs : List V} {xs : List V} {ps : List (List Int)} (h : Paired (TupAt H) xs ps) (hl : H l = some (.lst ys)) : Paired (TupAt (upd H l (.lst zs))) xs ps := L2.Paired.mapP h fun _ _ ⟨a, h1, h2⟩ => ⟨a, h1, by
  rw [upd_ne (ne_of h2 hl (fun z => nomatch z))]
  exact h2⟩
theorem comp_zip {k1 k2 : Kd} {K : W.Frag} {a b : Addr} {xs us : List V} {g : TG} {tt : TT} {te : TE} {fin : List V -> Hp -> Prop} {σ : St} {H : Hp} (S : St -> Prop) (Pv : Nat -> List V -> Hp -> Prop) (hσ : S σ) (h0 : Pv 0 [] H) (hz : xs.length < sizeLine)
    (hl : ∀ i ys H, i <= xs.length -> Pv i ys H -> SqK k1 K H a xs /\ SqK k2 K H b us) (hle : xs.length <= us.length)
    (hs : ∀ (i : Nat) (x y : V) (p : Addr) (ys : List V) (σ : St) (H : Hp) (N : List V -> St -> Hp -> Prop), xs[i]? = some x -> us[i]? = some y -> S σ -> Pv i ys H -> H p = none -> (∀ ys' σ' H', S σ' -> Pv (i + 1) ys' H' -> ys'.length <= ys.length + 1 -> N ys' σ' H') ->
      g (.ref p) σ (upd H p (.tup [x, y])) fun σ2 H2 => tt σ2 H2 fun b H3 => if b = true then te σ2 H3 fun y H4 => N (ys ++ [y]) σ2 H4 else N ys σ2 H3)
    (hd : ∀ ys H, Pv xs.length ys H -> fin ys H) : ∃ W, CompW (ItZ k1 k2 K a b) g tt te fin W /\ ∃ m, W 0 m [] σ H := by
  refine ⟨fun i m ys σ H => m = xs.length - i /\ i <= xs.length /\ ys.length <= i /\ S σ /\ Pv i ys H, ?_, xs.length, by simp, Nat.zero_le _, Nat.le_refl _, hσ, h0⟩
  rintro i m ys σ H ⟨rfl, hi, hy, hS, p⟩
  obtain ⟨q, q2⟩ := hl i ys H hi p
  by_cases hlt : i < xs.length
  · have hlt2 : i < us.length := by omega
    refine .inr ⟨⟨xs, us, xs[i], us[i], q, q2, by simp [hlt], by simp [hlt2]⟩, by omega, fun x H' y => ?_⟩
    obtain ⟨r, x, y, hn, rfl, hx2, hy2, rfl⟩ := y
    exact hs i x y r ys σ H (fun ys' σ' H'' => ∃ m', m' < xs.length - i /\ m' = xs.length - (i + 1) /\ i + 1 <= xs.length /\ ys'.length <= i + 1 /\ S σ' /\ Pv (i + 1) ys' H'') (hx2 xs q) (hy2 us q2) hS p hn (fun ys' σ' H'' a b c => ⟨_, by omega, rfl, hlt, by omega, a, b⟩)
  · have e : i = xs.length := by omega
    subst e
    exact .inl ⟨⟨xs, q, Nat.le_refl _⟩, by omega, hd ys H p⟩
def spWP : Sp := fun vs H Q _ => ∃ (wv : V) (n : Int) (ps : List (Int × Int)), vs = [wv] /\ WebAt H wv n ps /\ ps.length <= 8 /\ ∀ t H', Same H H' -> H' t = some (.tup ((ups ps.length).map V.int)) -> Q (.ref t) H'
theorem get_int' {ks : List Int} {i : Nat} {x : V} (hx : (ks.map V.int)[i]? = some x) : ∃ k, ks[i]? = some k /\ V.int k = x := by
  rw [List.getElem?_map] at hx
  cases e : ks[i]? with
  | none => rw [e] at hx; simp at hx
  | some k => rw [e] at hx; simp at hx; exact ⟨k, rfl, hx⟩
def spAt (K : W.Frag) : Sp := fun vs H Q _ => ∃ (a : Addr) (ns : List Int) (k : Nat), vs = [.ref a, .int k] /\ SqL K H a (ns.map V.int) /\ Q (.int (ns.getD k 0)) H
def spPts : Sp := fun vs H Q _ => ∃ c : Int, vs = [.int c] /\ ∀ n : Int, 1 <= n -> n <= 9 -> Q (.int n) H
def spTieD : Sp := fun vs H Q _ => ∃ c n : Int, vs = [.int c, .int n] /\ 1 <= n /\ n <= 9 /\ ∀ (p : Int × Int) d, InN n p -> p.1 <= p.2 -> H d = none -> Q (.ref d) (upd H d (.tup [.int p.1, .int p.2]))
def spDrawn (K : W.Frag) : Sp := fun vs H Q _ => ∃ (a : Addr) (ns : List Int), vs = [.ref a] /\ SqL K H a (ns.map V.int) /\ ∀ wv n ps H', Same H H' -> WebAt H' wv n ps -> WebOk n ps -> (∀ p ∈ ps, p.1 <= p.2) -> ps.length <= 7 -> Q wv H'
theorem norms {ps : List (Int × Int)} (h : ∀ p ∈ ps, p.1 <= p.2) : ps.map norm = ps := by
  have : ps.map norm = ps.map id := List.map_congr_left fun p hp => norm_id (h p hp)
  rw [this, List.map_id]
theorem cut_two (ns : List Int) (m : Int) (h0 : 0 <= m) (h7 : m <= 7) : ∃ ms : List Int, cutV (ns.map V.int) (some 2) (some (2 + m)) = ms.map V.int /\ ms.length <= 7 := by
  obtain ⟨j, rfl⟩ := Int.eq_ofNat_of_zero_le h0
  refine ⟨(ns.drop (HT.sIx (ns.map V.int).length 0 (some ((2 : Nat) : Int)))).take (HT.sIx (ns.map V.int).length (ns.map V.int).length (some ((2 + j : Nat) : Int)) - HT.sIx (ns.map V.int).length 0 (some ((2 : Nat) : Int))), ?_, ?_⟩
  · rw [show (2 + (j : Int)) = ((2 + j : Nat) : Int) by omega, show (some (2 : Int)) = some ((2 : Nat) : Int) from rfl]
    unfold cutV
    rw [List.map_take, List.map_drop]
  · rw [List.length_take, HT.sIx_nat, HT.sIx_nat]
    omega
theorem most_at (z : Int) : ∃ k : Int, 0 <= k /\ k <= 7 /\ atI ([.int 5, .int 4, .int 6, .int 3, .int 5, .int 4, .int 2, .int 7] : List V) (z % 8) = some (.int k) := by
  have := mod_in z 8 (by decide)
  generalize z % 8 = r at this
  have : r = 0 \/ r = 1 \/ r = 2 \/ r = 3 \/ r = 4 \/ r = 5 \/ r = 6 \/ r = 7 := by omega
  rcases this with rfl | rfl | rfl | rfl | rfl | rfl | rfl | rfl
  · exact ⟨5, by decide, by decide, atI_nat (j := 0) rfl⟩
  · exact ⟨4, by decide, by decide, atI_nat (j := 1) rfl⟩
  · exact ⟨6, by decide, by decide, atI_nat (j := 2) rfl⟩
  · exact ⟨3, by decide, by decide, atI_nat (j := 3) rfl⟩
  · exact ⟨5, by decide, by decide, atI_nat (j := 4) rfl⟩
  · exact ⟨4, by decide, by decide, atI_nat (j := 5) rfl⟩
  · exact ⟨2, by decide, by decide, atI_nat (j := 6) rfl⟩
  · exact ⟨7, by decide, by decide, atI_nat (j := 7) rfl⟩
section
variable {P : Program} {w : World} {K : W.Frag} {mg : Str -> Option Value} {base : Heap}
theorem scAt : FnScope ["_law_script", "_law_k"] ["_law_script", "_law_k"] (defScope sAt) := ⟨rfl, rfl, rfl, by decide +kernel, rfl, by decide +kernel, by decide +kernel⟩
theorem d_at (T : Txt K mg) (S : Src K mg "_law_at" sAt ["_law_script", "_law_k"]) : Def P w K mg base 1 "_law_at" ["_law_script", "_law_k"] (spAt K) := by
  refine S.def scAt (fun vs H Q E h => ?_) (fun f cdv A outer s H vs Q E hr h => ?_)
  · obtain ⟨_, _, _, rfl, _⟩ := h; rfl
  · obtain ⟨a, ns, k, rfl, hq, q⟩ := h
    refine ⟨_, pss_cons (ps_if (pt_cmpR op_lt (pv 1) (pe_callB (call_lenK K) (by rfl) T.len PySem.boot_len (pa_cons (pv 0) pa_nil)) (nomark _)) (pss_one (ps_ret (pe_ix (ix_listK K) (pv 0) (pv 1) (fun _ _ => rfl)))) pss_nil) (pss_one (ps_ret pe_int)), ?_⟩
    refine ⟨_, rfl, _, rfl, a, _, rfl, .inl hq, _, _, rfl, rfl, _, rfl, ?_⟩
    rw [List.length_map]
    by_cases h : k < ns.length
    · rw [decide_eq_true (show (k : Int) < (ns.length : Int) by omega)]
      refine iteT ⟨_, rfl, _, rfl, a, _, _, .int (ns.getD k 0), rfl, rfl, hq, atI_nat ?_, q⟩
      rw [List.getElem?_map, List.getD_eq_getElem?_getD]
      simp [h]
    · rw [decide_eq_false (show ¬ (k : Int) < (ns.length : Int) by omega)]
      refine iteF ?_
      rw [List.getD_eq_getElem?_getD, List.getElem?_eq_none (by omega)] at q
      exact q
theorem scPts : FnScope ["_law_cell"] ["_law_cell"] (defScope sPts) := ⟨rfl, rfl, rfl, by decide +kernel, rfl, by decide +kernel, by decide +kernel⟩
theorem d_pts (S : Src K mg "_law_points" sPts ["_law_cell"]) : Def P w K mg base 1 "_law_points" ["_law_cell"] spPts := by
  refine S.def scPts (fun vs H Q E h => ?_) (fun f cdv A outer s H vs Q E hr h => ?_)
  · obtain ⟨_, rfl, _⟩ := h; rfl
  · obtain ⟨c, rfl, q⟩ := h
    refine ⟨_, pss_cons (ps_if (pt_cmpR op_eq (pe_op op_mod (pv 0) pe_int) pe_int (nomark _)) (pss_one (ps_ret (pe_op op_add pe_int (pe_op op_mod (pe_op op_fdiv (pv 0) pe_int) pe_int)))) pss_nil)
      (pss_one (ps_ret (pe_op op_add pe_int (pe_op op_mod (pe_op op_fdiv (pv 0) pe_int) pe_int)))), ?_⟩
    refine ⟨_, rfl, _, _, rfl, rfl, (by show (0 : Int) < 8; decide), rfl, _, rfl, ?_⟩
    refine ite2 (fun _ => ?_) (fun _ => ?_)
    · exact ⟨_, rfl, _, _, rfl, rfl, ⟨by decide, by decide⟩, _, _, rfl, rfl, (by show (0 : Int) < 9; decide), _, _, rfl, rfl, q _ (by omega) (by omega)⟩
    · exact ⟨_, rfl, _, _, rfl, rfl, ⟨by decide, by decide⟩, _, _, rfl, rfl, (by show (0 : Int) < 5; decide), _, _, rfl, rfl, q _ (by omega) (by omega)⟩
theorem scTieD : FnScope ["_law_cell", "_law_points_here", "_law_a", "_law_b"] ["_law_cell", "_law_points_here"] (defScope sTie) := ⟨rfl, rfl, rfl, by decide +kernel, rfl, by decide +kernel, by decide +kernel⟩
theorem d_tieD (T : Txt K mg) (S : Src K mg "_law_tie" sTie ["_law_cell", "_law_points_here"]) : Def P w K mg base 1 "_law_tie" ["_law_cell", "_law_points_here"] spTieD := by
  refine S.def scTieD (fun vs H Q E h => ?_) (fun f cdv A outer s H vs Q E hr h => ?_)
  · obtain ⟨_, _, rfl, _⟩ := h; rfl
  · obtain ⟨c, n, rfl, n1, n9, q⟩ := h
    refine ⟨_, pss_cons (ps_set (i := 2) scTieD.nd rfl (Or.inl rfl) (pe_op op_mod (pv 0) (pv 1)))
      (pss_cons (ps_set (i := 3) scTieD.nd rfl (Or.inl rfl) (pe_op op_mod (pe_op op_fdiv (pv 0) (pv 1)) (pv 1)))
      (pss_one (ps_ret (pe_tup (pa_cons (pe_callB (call_min2 rfl) (by rfl) T.min boot_min' (pa_cons (pv 2) (pa_cons (pv 3) pa_nil))) (pa_cons (pe_callB (call_max2 rfl) (by rfl) T.max boot_max' (pa_cons (pv 2) (pa_cons (pv 3) pa_nil))) pa_nil)))))), ?_⟩
    refine ⟨_, rfl, _, rfl, _, _, rfl, rfl, (by show 0 < n; omega), ?_⟩
    refine ⟨_, rfl, _, rfl, _, _, rfl, rfl, ⟨by show 0 < n; omega, by show n < 1073741824; omega⟩, _, rfl, _, _, rfl, rfl, (by show 0 < n; omega), ?_⟩
    have m1 := mod_in c n (by omega)
    have m2 := mod_in (c / n) n (by omega)
    dsimp only [List.set]
    generalize c % n = A1 at m1 ⊢
    generalize c / n % n = B1 at m2 ⊢
    refine ⟨_, rfl, _, rfl, _, _, rfl, _, rfl, _, rfl, _, _, rfl, by show 2 <= sizeLine; decide, fun d hd => ?_⟩
    refine q (if B1 < A1 then B1 else A1, if B1 > A1 then B1 else A1) d ?_ ?_ hd
    · unfold InN
      dsimp only
      split <;> split <;> omega
    · dsimp only
      split <;> split <;> omega
theorem scDrawn : FnScope ["_law_script", "_law_points_here", "_law_most"] ["_law_script"] (defScope sDrawn) := ⟨rfl, rfl, rfl, by decide +kernel, rfl, by decide +kernel, by decide +kernel⟩
theorem ndDrawn : (["_law_cell", "_law_points_here"] : List Str).Nodup := by decide +kernel
theorem d_drawn (T : Txt K mg) (S : Src K mg "_law_drawn_web" sDrawn ["_law_script"]) (DA : Def P w K mg base 1 "_law_at" ["_law_script", "_law_k"] (spAt K)) (DP : Def P w K mg base 1 "_law_points" ["_law_cell"] spPts) (DT : Def P w K mg base 1 "_law_tie" ["_law_cell", "_law_points_here"] spTieD) : Def P w K mg base 2 "_law_drawn_web" ["_law_script"] (spDrawn K) := by
  refine S.def scDrawn (fun vs H Q E h => ?_) (fun f cdv A outer s H vs Q E hr h => ?_)
  · obtain ⟨_, _, rfl, _⟩ := h; rfl
  · obtain ⟨a, ns, rfl, hq, q⟩ := h
    have hr1 : Room 1 _ := hr.mono (by decide)
    refine ⟨_, pss_cons (ps_set (i := 1) scDrawn.nd rfl (Or.inr rfl) (pe_def DP hr1 rfl (pa_cons (pe_def DA hr1 rfl (pa_cons (pv 0) (pa_cons pe_int pa_nil))) pa_nil)))
      (pss_cons (ps_set (i := 2) scDrawn.nd rfl (Or.inl rfl) (pe_ix (ix_listK K) (pe_lst (pa_cons pe_int (pa_cons pe_int (pa_cons pe_int (pa_cons pe_int (pa_cons pe_int (pa_cons pe_int (pa_cons pe_int (pa_cons pe_int pa_nil))))))))) (pe_op op_mod (pe_def DA hr1 rfl (pa_cons (pv 0) (pa_cons pe_int pa_nil))) pe_int) (fun _ _ => rfl)))
      (pss_one (ps_ret (pe_tup (pa_cons (pv 1) (pa_cons (pe_callTy (call_tuple_ofK K) rfl T.tuple boot_tuple' (pa_cons (pe_comp (N' := ["_law_cell", "_law_points_here"]) (fr := [none, some 1]) (compOk_of (by rfl)) rfl (pi_seqK K .l (pe_slice (sl_listK K) (pv 0) (po_some pe_int) (po_some (pe_op op_add pe_int (pv 2)))))
        (fun _ _ _ _ => pg_name (i := 0) ndDrawn rfl (Or.inl rfl) (Or.inr rfl)) (fun _ _ _ _ => pifs_nil) (fun _ _ _ _ => pe_def DT hr1 rfl (pa_cons (pv 0) (pa_cons (pv 1) pa_nil)))) pa_nil)) pa_nil)))))), ?_⟩
    refine ⟨_, rfl, a, ns, 0, rfl, hq, _, rfl, fun n n1 n9 => ?_⟩
    refine ⟨by show 8 <= sizeLine; decide, fun g hg => ?_⟩
    have s1 := Same.new (o := HO.lst [.int 5, .int 4, .int 6, .int 3, .int 5, .int 4, .int 2, .int 7]) hg
    have g1 : (upd H g (.lst [.int 5, .int 4, .int 6, .int 3, .int 5, .int 4, .int 2, .int 7])) g = some (.lst [.int 5, .int 4, .int 6, .int 3, .int 5, .int 4, .int 2, .int 7]) := upd_same
    generalize upd H g (.lst [.int 5, .int 4, .int 6, .int 3, .int 5, .int 4, .int 2, .int 7]) = H1 at s1 g1 ⊢
    obtain ⟨most, m0, m7, em⟩ := most_at (ns.getD 1 0)
    refine ⟨_, rfl, a, ns, 1, rfl, s1.seq hq, _, _, rfl, rfl, (by show (0 : Int) < 8; decide), g, _, _, _, rfl, rfl, SqL.of g1, em, ?_⟩
    dsimp only [List.set]
    obtain ⟨ms, ec, ml⟩ := cut_two ns most m0 m7
    refine ⟨_, rfl, _, rfl, _, rfl, _, rfl, _, _, rfl, rfl, _, rfl, a, _, rfl, s1.seq hq, fun p1 hp1 => ?_⟩
    rw [ec]
    have s2 := s1.trans (Same.new (o := HO.lst (ms.map V.int)) hp1)
    have h2 : (upd H1 p1 (.lst (ms.map V.int))) p1 = some (.lst (ms.map V.int)) := upd_same
    generalize upd H1 p1 (.lst (ms.map V.int)) = H2 at s2 h2 ⊢
    refine ⟨p1, rfl, ⟨_, SqL.of h2⟩, comp_seq (k := .l) (a := p1) (xs := ms.map V.int) (fun σ => ∃ u, σ = [u, some (.int n)]) (fun j ys H3 => Same H2 H3 /\ ∃ ps : List (Int × Int), Paired (TieAt H3) ys ps /\ ps.length = j /\ (∀ p ∈ ps, InN n p) /\ ∀ p ∈ ps, p.1 <= p.2) ⟨_, rfl⟩ ⟨Same.refl _, [], .nil, rfl, fun _ z => (nomatch z), fun _ z => (nomatch z)⟩ (by rw [List.length_map]; exact ten_line (by omega)) (fun j ys H3 _ z => SqL.of (z.1 _ _ h2)) ?_ ?_⟩
    · rintro j x ys σ H3 N hx ⟨u, rfl⟩ ⟨s3, ps, hp, pl, hb, hn⟩ hN
      obtain ⟨cell, ec2, rfl⟩ := get_int' hx
      dsimp only [gName, List.set]
      refine yesT ⟨_, rfl, _, rfl, cell, n, rfl, n1, n9, fun p d ip np hd => ?_⟩
      have s4 := Same.new (o := HO.tup [.int p.1, .int p.2]) hd
      refine hN _ _ _ ⟨_, rfl⟩ ⟨s3.trans s4, ps ++ [p], L2.Paired.snoc (ties_same hp s4) ⟨d, rfl, upd_same⟩, by rw [List.length_append, pl]; rfl, fun p' hp' => ?_, fun p' hp' => ?_⟩ (by simp)
      · rcases List.mem_append.mp hp' with z | z
        · exact hb p' z
        · rw [List.mem_singleton.mp z]; exact ip
      · rcases List.mem_append.mp hp' with z | z
        · exact hn p' z
        · rw [List.mem_singleton.mp z]; exact np
    · rintro ys H3 ⟨s3, ps, hp, pl, hb, hn⟩ p4 hp4
      rw [List.length_map] at pl
      have s4 := Same.new (o := HO.lst ys) hp4
      have h4 : (upd H3 p4 (.lst ys)) p4 = some (.lst ys) := upd_same
      generalize upd H3 p4 (.lst ys) = H4 at s4 h4 ⊢
      refine ⟨p4, ys, rfl, .inl ⟨SqL.of h4, fun d hd => ⟨by show 2 <= sizeLine; decide, fun c hc => ?_⟩⟩⟩
      have s5 := Same.new (o := HO.tup ys) hd
      have s6 := Same.new (o := HO.tup [.int n, .ref d]) hc
      exact q (.ref c) n ps _ (s2.trans (s3.trans (s4.trans (s5.trans s6)))) ⟨c, d, ys, rfl, upd_same, s6 _ _ upd_same, ties_same hp (s4.trans (s5.trans s6))⟩ ⟨⟨n1, n9⟩, hb, by omega⟩ hn (by omega)
end
def spPtg (K : W.Frag) : Sp := fun vs H Q _ => ∃ (wv : V) (n : Int) (ps : List (Int × Int)), vs = [wv] /\ WebAt H wv n ps /\ ps.length <= 8 /\
  ∀ g ys H', Same H H' -> H g = none -> H' g = some (.lst ys) -> Paired (TupAt H') ys (allW ps.length) -> Q (.ref g) H'
def spLeads (K : W.Frag) : Sp := fun vs H Q _ => ∃ (wv : V) (pt : Addr) (n : Int) (ps : List (Int × Int)) (w : List Int), vs = [wv, .ref pt] /\ WebAt H wv n ps /\ SqT K H pt (w.map V.int) /\ w.length = ps.length /\ ps.length <= 8 /\
  ∀ l xs H', Same H H' -> H' l = some (.lst xs) -> Paired (TieAt H') xs (leadsP ps w) -> Q (.ref l) H'
def ext2 (p : List Int) : List (List Int) := [p ++ [0], p ++ [1]]
section
variable {P : Program} {w : World} {K : W.Frag} {mg : Str -> Option Value} {base : Heap}
theorem scPtg : FnScope ["web", "pointings", "k", "longer", "pointing"] ["web"] (defScope sPtg) := ⟨rfl, rfl, rfl, by decide +kernel, rfl, by decide +kernel, by decide +kernel⟩
theorem pow_le8 {m : Nat} (h : m <= 8) : 2 ^ m <= 256 := Nat.pow_le_pow_right (by decide) h
theorem d_ptg (T : Txt K mg) (S : Src K mg "all_pointings" sPtg ["web"]) (DW : Def P w K mg base 1 "whole_pick" ["web"] spWP) : Def P w K mg base 2 "all_pointings" ["web"] (spPtg K) := by
  refine S.def scPtg (fun vs H Q E h => ?_) (fun f cdv A outer s H vs Q E hr h => ?_)
  · obtain ⟨_, _, _, rfl, _⟩ := h; rfl
  · obtain ⟨wv, n, ps, rfl, W, h8, q⟩ := h
    have hr1 : Room 1 _ := hr.mono (by decide)
    refine ⟨_, pss_cons (ps_set (i := 1) scPtg.nd rfl (Or.inl rfl) (pe_lst (pa_cons (pe_tup pa_nil) pa_nil)))
      (pss_cons (ps_for PassesOwn.never rfl (pi_seqK K .t (pe_def DW hr1 rfl (pa_cons (pv 0) pa_nil))) (pg_name (i := 2) scPtg.nd rfl (Or.inl rfl))
        (pss_cons (ps_set (i := 3) scPtg.nd rfl (Or.inl rfl) (pe_lst pa_nil))
        (pss_cons (ps_for PassesOwn.never rfl (pi_seqK K .l (pv 1)) (pg_name (i := 4) scPtg.nd rfl (Or.inl rfl))
          (pss_one (ps_expr (pe_bm PySem.F.plainAttrs_list PySem.F.slot_list_extend PySem.F.type_list_extend mt_extend (pv 3) (pa_cons (pe_lst (pa_cons (pe_op (op_catAK K) (pv 4) (pe_tup (pa_cons pe_int pa_nil))) (pa_cons (pe_op (op_catAK K) (pv 4) (pe_tup (pa_cons pe_int pa_nil))) pa_nil))) pa_nil)))))
        (pss_one (ps_set (i := 1) scPtg.nd rfl (Or.inl rfl) (pv 3))))))
      (pss_one (ps_ret (pv 1)))), ?_⟩
    refine ⟨Nat.zero_le _, fun e he => ⟨by show 1 <= sizeLine; decide, fun l hl => ?_⟩⟩
    have s2 := Same.new (o := HO.tup []) he
    have s3 := Same.new (o := HO.lst [.ref e]) hl
    have he2 : (upd (upd H e (.tup [])) l (.lst [.ref e])) e = some (.tup []) := s3 _ _ upd_same
    have hl2 : (upd (upd H e (.tup [])) l (.lst [.ref e])) l = some (.lst [.ref e]) := upd_same
    have hlN : H l = none := was_none s2 hl
    have s13 := s2.trans s3
    generalize upd (upd H e (.tup [])) l (.lst [.ref e]) = H3 at he2 hl2 s13 ⊢
    dsimp only [List.set]
    refine ⟨_, rfl, wv, n, ps, rfl, W.same s13, h8, fun t H4 s4 ht4 => ?_⟩
    have s14 := s13.trans s4
    have ul : ((ups ps.length).map V.int).length = ps.length := by rw [List.length_map, ups_len]; simp
    refine ⟨t, rfl, ⟨_, SqT.of ht4⟩, for_seq (k := .t) (K := K) (a := t) (xs := (ups ps.length).map V.int) (fun i σ H' => ∃ (l : Addr) (ys : List V) (u2 u3 u4 : Option V), σ = [some wv, some (.ref l), u2, u3, u4] /\ Same H H' /\ H l = none /\ H' t = some (.tup ((ups ps.length).map V.int)) /\ H' l = some (.lst ys) /\ Paired (TupAt H') ys (allW i))
      ⟨l, [.ref e], _, _, _, rfl, s14, hlN, ht4, s4 _ _ hl2, .cons ⟨e, rfl, s4 _ _ he2⟩ .nil⟩ (fun i σ H' _ ⟨_, _, _, _, _, _, _, _, z, _⟩ => SqT.of z) ?_ ?_⟩
    · rintro i x σ H5 hx ⟨l, ys, u2, u3, u4, rfl, s5, lN, ht5, hl5, hy⟩
      have il : i < ps.length := by
        have := (List.getElem?_eq_some_iff.mp hx).1
        omega
      have yl : ys.length <= 256 := by rw [Paired.length hy, allW_len]; exact pow_le8 (by omega)
      dsimp only [gName, List.set]
      refine ⟨Nat.zero_le _, fun g hg => ?_⟩
      have gN : H g = none := was_none s5 hg
      have s6 := Same.new (o := HO.lst []) hg
      have hg6 : (upd H5 g (.lst [])) g = some (.lst []) := upd_same
      generalize upd H5 g (.lst []) = H6 at s6 hg6 ⊢
      dsimp only [List.set]
      refine ⟨_, rfl, l, rfl, ⟨_, SqL.of (s6 _ _ hl5)⟩, for_seq (k := .l) (K := K) (a := l) (xs := ys) (fun j σ H' => ∃ (zs : List V) (u : Option V), σ = [some wv, some (.ref l), some x, some (.ref g), u] /\ Same H5 H' /\ H' g = some (.lst zs) /\ Paired (TupAt H') zs (((allW i).take j).flatMap ext2))
        ⟨[], _, rfl, s6, hg6, .nil⟩ (fun j σ H' _ ⟨_, _, _, z, _⟩ => SqL.of (z _ _ hl5)) ?_ ?_⟩
      · rintro j y σ H7 hyj ⟨zs, u, rfl, s7, hg7, hz⟩
        obtain ⟨p, ep, c, rfl, hc⟩ := Paired.at hy hyj
        have pl : p.length = i := (mem_allW.mp (List.mem_of_getElem? ep)).1
        have hc7 := s7 _ _ hc
        have jl := (List.getElem?_eq_some_iff.mp hyj).1
        have zl : zs.length <= 600 := by
          have e1 : ∀ l : List (List Int), (l.flatMap ext2).length = 2 * l.length := by
            intro l
            induction l with
            | nil => rfl
            | cons a l ih => rw [List.flatMap_cons, List.length_append, ih, List.length_cons]; show 2 + _ = _; omega
          rw [Paired.length hz, e1, List.length_take]
          omega
        dsimp only [gName, List.set]
        refine ⟨_, rfl, .inl ⟨rfl, _, SqL.of hg7⟩, _, rfl, by show 1 <= sizeLine; decide, fun d1 hd1 => ?_⟩
        have s8 := Same.new (o := HO.tup [.int 0]) hd1
        refine ⟨c, d1, _, _, rfl, rfl, s8 _ _ hc7, upd_same, ?_, fun p1 H9 s9 hp1 => ⟨_, rfl, by show 1 <= sizeLine; decide, fun d2 hd2 => ?_⟩⟩
        · rw [List.length_map]
          exact Nat.le_of_lt (line300 (show p.length + 1 <= 300 by omega))
        have s79 := s8.trans s9
        have s10 := Same.new (o := HO.tup [.int 1]) hd2
        refine ⟨c, d2, _, _, rfl, rfl, s10 _ _ (s79 _ _ hc7), upd_same, ?_, fun p2 H11 s11 hp2 => ⟨by show 2 <= sizeLine; decide, fun e5 he5 => ?_⟩⟩
        · rw [List.length_map]
          exact Nat.le_of_lt (line300 (show p.length + 1 <= 300 by omega))
        have s12 := Same.new (o := HO.lst [.ref p1, .ref p2]) he5
        have s911 := s10.trans s11
        have s712 := s79.trans (s911.trans s12)
        have hg12 := s712 _ _ hg7
        have he12 : (upd H11 e5 (.lst [.ref p1, .ref p2])) e5 = some (.lst [.ref p1, .ref p2]) := upd_same
        have hp1' : TupAt (upd H11 e5 (.lst [.ref p1, .ref p2])) (.ref p1) (p ++ [0]) := ⟨p1, rfl, by rw [List.map_append]; exact (s911.trans s12) _ _ hp1⟩
        have hp2' : TupAt (upd H11 e5 (.lst [.ref p1, .ref p2])) (.ref p2) (p ++ [1]) := ⟨p2, rfl, by rw [List.map_append]; exact s12 _ _ hp2⟩
        have hz12 := tups_same hz s712
        generalize upd H11 e5 (.lst [.ref p1, .ref p2]) = H12 at s12 s712 hg12 he12 hp1' hp2' hz12 ⊢
        refine ⟨g, e5, zs, _, rfl, rfl, hg12, he12, Nat.le_trans (show zs.length + 2 <= 1000 by omega) (by decide), ?_⟩
        refine ⟨zs ++ [.ref p1, .ref p2], _, rfl, put_fresh (s7.trans s712) hg, upd_same, ?_⟩
        refine tups_putl ?_ hg12
        rw [take_succ_of ep, List.flatMap_append]
        have := L2.Paired.snoc (L2.Paired.snoc hz12 hp1') hp2'
        rw [List.append_assoc, List.append_assoc] at this
        exact this
      · rintro σ H7 ⟨zs, u, rfl, s7, hg7, hz⟩
        refine ⟨_, rfl, ?_⟩
        dsimp only [List.set]
        refine ⟨g, zs, _, _, _, rfl, s5.trans s7, gN, s7 _ _ ht5, hg7, ?_⟩
        have yl2 : ys.length = (allW i).length := Paired.length hy
        rw [yl2, List.take_length] at hz
        exact hz
    · rintro σ H5 ⟨l, ys, u2, u3, u4, rfl, s5, lN, ht5, hl5, hy⟩
      rw [ul] at hy
      exact ⟨_, rfl, q l ys H5 s5 lN hl5 hy⟩
theorem scLeadsOf : FnScope ["web", "pointing"] ["web", "pointing"] (defScope sLeadsOf) := ⟨rfl, rfl, rfl, by decide +kernel, rfl, by decide +kernel, by decide +kernel⟩
theorem ndTW : (["tie", "way"] : List Str).Nodup := by decide +kernel
theorem d_leads (T : Txt K mg) (S : Src K mg "leads_of" sLeadsOf ["web", "pointing"]) : Def P w K mg base 1 "leads_of" ["web", "pointing"] (spLeads K) := by
  refine S.def scLeadsOf (fun vs H Q E h => ?_) (fun f cdv A outer s H vs Q E hr h => ?_)
  · obtain ⟨_, _, _, _, _, rfl, _⟩ := h; rfl
  · obtain ⟨wv, pt, n, ps, wy, rfl, W, hp, wl, h8, q⟩ := h
    obtain ⟨c, d, xs, rfl, hc, hd, ht⟩ := W.ex
    have xl : xs.length = ps.length := Paired.length ht
    have i1 : atI ([.int n, .ref d] : List V) 1 = some (.ref d) := atI_nat (j := 1) rfl
    refine ⟨_, pss_one (ps_ret (pe_comp (N' := ["tie", "way"]) (fr := [none, none]) (compOk_of (by rfl)) rfl (pi_zipK K .t .t rfl T.zip (pa_cons (pe_ix (ix_tupK K) (pv 0) pe_int (fun _ _ => rfl)) (pa_cons (pv 1) pa_nil)))
      (g := gTup K 2 (gCons (gName 0) (gCons (gName 1) gNil))) (fun _ _ _ _ => pg_tupK K 2 rfl (pgs_cons (pg_name (i := 0) ndTW rfl (Or.inl rfl) (Or.inr rfl)) (pgs_cons (pg_name (i := 1) ndTW rfl (Or.inl rfl) (Or.inr rfl)) pgs_nil))) (fun _ _ _ _ => pifs_nil)
      (fun _ _ _ _ => pe_ifExp (pt_cmpR op_eq (pv 1) pe_int (nomark _)) (pv 0) (pe_tup (pa_cons (pe_ix (r := rIxT K) (ix_tupK K) (pv 0) pe_int (fun _ _ => rfl)) (pa_cons (pe_ix (r := rIxT K) (ix_tupK K) (pv 0) pe_int (fun _ _ => rfl)) pa_nil)))))), ?_⟩
    refine ⟨_, rfl, c, _, _, _, rfl, rfl, SqT.of hc, i1, _, rfl, d, pt, xs, _, rfl, SqT.of hd, hp, ?_⟩
    refine comp_zip (k1 := .t) (k2 := .t) (K := K) (a := d) (b := pt) (xs := xs) (us := wy.map V.int) (fun σ => ∃ u v, σ = [u, v]) (fun j ys H' => Same H H' /\ Paired (TieAt H') ys ((leadsP ps wy).take j)) ⟨_, _, rfl⟩ ⟨Same.refl _, .nil⟩ (ten_line (by omega)) (fun j ys H' _ z => ⟨SqT.of (z.1 _ _ hd), sqT z.1 hp⟩) (by rw [List.length_map]; omega) ?_ ?_
    · rintro j x y p ys σ H2 N hx hy ⟨u, v, rfl⟩ ⟨s2, hz⟩ hpN hN
      obtain ⟨pr, ep, b, rfl, hb⟩ := Paired.at ht hx
      obtain ⟨wb, ew, rfl⟩ : ∃ k, wy[j]? = some k /\ V.int k = y := by
        rw [List.getElem?_map] at hy
        cases e : wy[j]? with
        | none => rw [e] at hy; simp at hy
        | some k => rw [e] at hy; simp at hy; exact ⟨k, rfl, hy⟩
      have s3 := s2.trans (Same.new (o := HO.tup [.ref b, .int wb]) hpN)
      have hp3 : (upd H2 p (.tup [.ref b, .int wb])) p = some (.tup [.ref b, .int wb]) := upd_same
      have hz3 := ties_same hz (Same.new (o := HO.tup [.ref b, .int wb]) hpN)
      generalize upd H2 p (.tup [.ref b, .int wb]) = H3 at s3 hp3 hz3 ⊢
      refine ⟨p, _, rfl, SqT.of hp3, rfl, _, _, rfl, _, _, rfl, rfl, ?_⟩
      dsimp only [gName, List.set]
      refine yesT ⟨_, rfl, rfl, _, rfl, ?_⟩
      rw [dec_int]
      have eL := leadsP_get ep ew
      have hb3 := s3 _ _ hb
      refine ite2 (fun z => ⟨_, rfl, ?_⟩) (fun z => ?_)
      · rw [if_pos (of_decide_eq_true z)] at eL
        refine hN _ _ _ ⟨_, _, rfl⟩ ⟨s3, ?_⟩ (by simp)
        rw [take_succ_of eL]
        exact L2.Paired.snoc hz3 ⟨b, rfl, hb3⟩
      · rw [if_neg (of_decide_eq_false (by simpa using z))] at eL
        have t0 : atI ([.int pr.1, .int pr.2] : List V) 0 = some (.int pr.1) := atI_nat (j := 0) rfl
        have t1 : atI ([.int pr.1, .int pr.2] : List V) 1 = some (.int pr.2) := atI_nat (j := 1) rfl
        refine ⟨_, rfl, b, _, _, _, rfl, rfl, SqT.of hb3, t1, _, rfl, b, _, _, _, rfl, rfl, SqT.of hb3, t0, by show 2 <= sizeLine; decide, fun c4 hc4 => ?_⟩
        have s4 := Same.new (o := HO.tup [.int pr.2, .int pr.1]) hc4
        refine hN _ _ _ ⟨_, _, rfl⟩ ⟨s3.trans s4, ?_⟩ (by simp)
        rw [take_succ_of eL]
        exact L2.Paired.snoc (ties_same hz3 s4) ⟨c4, rfl, upd_same⟩
    · rintro ys H2 ⟨s2, hz⟩ l hl
      have s3 := Same.new (o := HO.lst ys) hl
      rw [show xs.length = (leadsP ps wy).length by rw [leadsP_len wl]; exact xl, List.take_length] at hz
      exact q l ys _ (s2.trans s3) upd_same (ties_same hz s3)
theorem scWP : FnScope ["web"] ["web"] (defScope sWhole) := ⟨rfl, rfl, rfl, by decide +kernel, rfl, by decide +kernel, by decide +kernel⟩
theorem d_wp (T : Txt K mg) (S : Src K mg "whole_pick" sWhole ["web"]) : Def P w K mg base 1 "whole_pick" ["web"] spWP := by
  refine S.def scWP (fun vs H Q E h => ?_) (fun f cdv A outer s H vs Q E hr h => ?_)
  · obtain ⟨i, _, _, rfl, _⟩ := h; rfl
  · obtain ⟨wv, n, ps, rfl, W, hl8, q⟩ := h
    obtain ⟨c, d, xs, rfl, hc, hd, ht⟩ := W.ex
    have xl : xs.length = ps.length := Paired.length ht
    refine ⟨_, pss_one (ps_ret (pe_callTy (call_tuple_rng rfl) rfl T.tuple boot_tuple' (pa_cons (pe_callTy call_range1 rfl T.range boot_range' (pa_cons (pe_callB (call_lenK K) (by rfl) T.len PySem.boot_len (pa_cons (pe_ix (ix_tupK K) (pv 0) pe_int (fun _ _ => rfl)) pa_nil)) pa_nil)) pa_nil))), ?_⟩
    have i1 : atI ([.int n, .ref d] : List V) 1 = some (.ref d) := atI_nat (j := 1) rfl
    refine ⟨_, rfl, c, _, _, _, rfl, rfl, SqT.of hc, i1, d, xs, rfl, .inr (SqT.of hd), _, rfl, fun p hp => ⟨p, xs.length, rfl, upd_same, by lia, fun l hl => ?_⟩⟩
    refine q l _ ((Same.new hp).trans (Same.new hl)) ?_
    rw [upd_same, upN_ups, xl]
end
theorem bit01 (j e : Nat) : Builtin.bitAnd ((j : Int) / 2 ^ e) 1 = if j.testBit e then 1 else 0 := by
  have e1 : ((j : Int) / 2 ^ e) = ((j / 2 ^ e : Nat) : Int) := by rw [Int.natCast_ediv, Int.natCast_pow]; rfl
  rw [e1, PyProof.Rows.bitAnd_pp (Int.natCast_nonneg _) (by decide), Int.toNat_natCast, Nat.testBit_eq_decide_div_mod_eq]
  show ((j / 2 ^ e &&& 1 : Nat) : Int) = _
  rw [Nat.and_one_is_mod]
  have : j / 2 ^ e % 2 = 0 \/ j / 2 ^ e % 2 = 1 := by lia
  rcases this with h | h <;> rw [h] <;> rfl
theorem allW_bits {m : Nat} (h8 : m <= 8) : (List.range (2 ^ m)).map (bitsN m) = allW m := by
  refine bits_all m ?_
  have : m = 0 \/ m = 1 \/ m = 2 \/ m = 3 \/ m = 4 \/ m = 5 \/ m = 6 \/ m = 7 \/ m = 8 := by lia
  rcases this with rfl | rfl | rfl | rfl | rfl | rfl | rfl | rfl | rfl <;> decide
theorem allW_get {m j : Nat} (h8 : m <= 8) (hj : j < 2 ^ m) : (allW m)[j]? = some (bitsN m j) := by
  rw [<- allW_bits h8]
  simp [hj]
def spLLeads (K : W.Frag) : Sp := fun vs H Q _ => ∃ (d pt : Addr) (xs : List V) (ps : List (Int × Int)) (w : List Int), vs = [.ref d, .ref pt] /\ H d = some (.tup xs) /\ Paired (TieAt H) xs ps /\ SqT K H pt (w.map V.int) /\ w.length = ps.length /\ (∀ x ∈ w, x = 0 \/ x = 1) /\ ps.length <= 8 /\
  ∀ l ys H', Same H H' -> H' l = some (.lst ys) -> Paired (TieAt H') ys (leadsP ps w) -> Q (.ref l) H'
def spLPtg : Sp := fun vs H Q _ => ∃ m : Nat, vs = [.int m] /\ m <= 8 /\ ∀ g ys H', Same H H' -> H' g = some (.lst ys) -> Paired (TupAt H') ys (allW m) -> Q (.ref g) H'
def spLWh : Sp := fun vs H Q _ => ∃ k : Int, vs = [.int k] /\ Q (.bl true) H
theorem same_tup {K : W.Frag} {H : Hp} {v u : V} {p : List Int} (h1 : TupAt H v p) (h2 : TupAt H u p) : SameD K H 1 v u := by
  obtain ⟨a, rfl, ha⟩ := h1
  obtain ⟨b, rfl, hb⟩ := h2
  refine .tup (SqT.of ha) (SqT.of hb) rfl fun i x y e1 e2 => ?_
  rw [e1] at e2
  cases e2
  obtain ⟨k, _, rfl⟩ := get_int' e1
  exact .flat rfl
theorem same_lists {K : W.Frag} {H : Hp} {a b : Addr} {xs ys : List V} {L : List (List Int)} (ha : H a = some (.lst xs)) (hb : H b = some (.lst ys)) (p1 : Paired (TupAt H) xs L) (p2 : Paired (TupAt H) ys L) {Q : VK} {out : Bool} (q : Q (.bl out) H) : rSame K out (.ref a) (.ref b) H Q := by
  have l1 := Paired.length p1
  have l2 := Paired.length p2
  refine ⟨a, b, xs, ys, 1, rfl, rfl, .inr ⟨SqL.of ha, SqL.of hb⟩, by lia, by decide, fun j x y f1 f2 => ?_, q⟩
  obtain ⟨q1, g1, h1⟩ := Paired.at p1 f1
  obtain ⟨q2, g2, h2⟩ := Paired.at p2 f2
  rw [g1] at g2
  cases g2
  exact same_tup h1 h2
section
variable {P : Program} {w : World} {K : W.Frag} {mg : Str -> Option Value} {base : Heap}
theorem kp_int (K : W.Frag) : PySem.W.kitOne K (.type "int") (.type "int") = some true := by first | rfl | decide +kernel
theorem kp_intb (K : W.Frag) : PySem.W.kitOne K (.type "int") (.type "bool") = some false := by first | rfl | decide +kernel
theorem kp_tup (K : W.Frag) : PySem.W.kitOne K (.type "tuple") (.type "tuple") = some true := by rfl
theorem kp_lst (K : W.Frag) : PySem.W.kitOne K (.type "list") (.type "list") = some true := by rfl
theorem scLLeads : FnScope ["_law_ties", "_law_pointing"] ["_law_ties", "_law_pointing"] (defScope sLLeads) := ⟨rfl, rfl, rfl, by decide +kernel, rfl, by decide +kernel, by decide +kernel⟩
theorem ndABT : (["_law_a", "_law_b", "_law_turn"] : List Str).Nodup := by decide +kernel
theorem d_lleads (T : Txt K mg) (S : Src K mg "_law_leads" sLLeads ["_law_ties", "_law_pointing"]) : Def P w K mg base 1 "_law_leads" ["_law_ties", "_law_pointing"] (spLLeads K) := by
  refine S.def scLLeads (fun vs H Q E h => ?_) (fun f cdv A outer s H vs Q E hr h => ?_)
  · obtain ⟨_, _, _, _, _, rfl, _⟩ := h; rfl
  · obtain ⟨d, pt, xs, ps, wy, rfl, hd, ht, hp, wl, w01, h8, q⟩ := h
    have xl : xs.length = ps.length := Paired.length ht
    refine ⟨_, pss_one (ps_ret (pe_comp (N' := ["_law_a", "_law_b", "_law_turn"]) (fr := [none, none, none]) (compOk_of (by rfl)) rfl (pi_zipK K .t .t rfl T.zip (pa_cons (pv 0) (pa_cons (pv 1) pa_nil)))
      (g := gTup K 2 (gCons (gTup K 2 (gCons (gName 0) (gCons (gName 1) gNil))) (gCons (gName 2) gNil))) (fun _ _ _ _ => pg_tup rfl (pgs_cons (pg_tupK K 2 rfl (pgs_cons (pg_name (i := 0) ndABT rfl (Or.inl rfl) (Or.inr rfl)) (pgs_cons (pg_name (i := 1) ndABT rfl (Or.inl rfl) (Or.inr rfl)) pgs_nil))) (pgs_cons (pg_name (i := 2) ndABT rfl (Or.inl rfl) (Or.inr rfl)) pgs_nil))) (fun _ _ _ _ => pifs_nil)
      (fun _ _ _ _ => pe_ix (r := rIxL K) (ix_listK K) (pe_lst (pa_cons (pe_tup (pa_cons (pv 0) (pa_cons (pv 1) pa_nil))) (pa_cons (pe_tup (pa_cons (pv 1) (pa_cons (pv 0) pa_nil))) pa_nil))) (pv 2) (fun _ _ => rfl)))), ?_⟩
    refine ⟨_, rfl, _, rfl, d, pt, xs, _, rfl, SqT.of hd, hp, ?_⟩
    refine comp_zip (k1 := .t) (k2 := .t) (K := K) (a := d) (b := pt) (xs := xs) (us := wy.map V.int) (fun σ => ∃ u v t, σ = [u, v, t]) (fun j ys H' => Same H H' /\ Paired (TieAt H') ys ((leadsP ps wy).take j)) ⟨_, _, _, rfl⟩ ⟨Same.refl _, .nil⟩ (ten_line (by lia)) (fun j ys H' _ z => ⟨SqT.of (z.1 _ _ hd), sqT z.1 hp⟩) (by rw [List.length_map]; lia) ?_ ?_
    · rintro j x y p ys σ H2 N hx hy ⟨u, v, t, rfl⟩ ⟨s2, hz⟩ hpN hN
      obtain ⟨pr, ep, b, rfl, hb⟩ := Paired.at ht hx
      obtain ⟨wb, ew, rfl⟩ := get_int' hy
      have s3 := s2.trans (Same.new (o := HO.tup [.ref b, .int wb]) hpN)
      have hp3 : (upd H2 p (.tup [.ref b, .int wb])) p = some (.tup [.ref b, .int wb]) := upd_same
      have hz3 := ties_same hz (Same.new (o := HO.tup [.ref b, .int wb]) hpN)
      generalize upd H2 p (.tup [.ref b, .int wb]) = H3 at s3 hp3 hz3 ⊢
      have hb3 := s3 _ _ hb
      refine ⟨p, _, rfl, SqT.of hp3, rfl, _, _, rfl, b, _, rfl, SqT.of hb3, rfl, _, _, rfl, _, _, rfl, rfl, _, _, rfl, rfl, ?_⟩
      dsimp only [gName, List.set]
      refine yesT ⟨_, rfl, _, rfl, by show 2 <= sizeLine; decide, fun c1 hc1 => ⟨_, rfl, _, rfl, by show 2 <= sizeLine; decide, fun c2 hc2 => ⟨by show 2 <= sizeLine; decide, fun g hg => ?_⟩⟩⟩
      have v1 := Same.new (o := HO.tup [.int pr.1, .int pr.2]) hc1
      have v2 := Same.new (o := HO.tup [.int pr.2, .int pr.1]) hc2
      have v3 := Same.new (o := HO.lst [.ref c1, .ref c2]) hg
      have g1 := v3 _ _ (v2 _ _ (upd_same (H := H3) (a := c1) (o := HO.tup [.int pr.1, .int pr.2])))
      have g2 := v3 _ _ (upd_same (H := upd H3 c1 (.tup [.int pr.1, .int pr.2])) (a := c2) (o := HO.tup [.int pr.2, .int pr.1]))
      have g3 : (upd (upd (upd H3 c1 (.tup [.int pr.1, .int pr.2])) c2 (.tup [.int pr.2, .int pr.1])) g (.lst [.ref c1, .ref c2])) g = some (.lst [.ref c1, .ref c2]) := upd_same
      have v := v1.trans (v2.trans v3)
      generalize upd (upd (upd H3 c1 (.tup [.int pr.1, .int pr.2])) c2 (.tup [.int pr.2, .int pr.1])) g (.lst [.ref c1, .ref c2]) = H4 at g1 g2 g3 v ⊢
      have eL := leadsP_get ep ew
      rcases w01 wb (List.mem_of_getElem? ew) with rfl | rfl
      · refine ⟨_, rfl, g, _, _, _, rfl, rfl, SqL.of g3, atI_nat (j := 0) rfl, ?_⟩
        refine hN _ _ _ ⟨_, _, _, rfl⟩ ⟨s3.trans v, ?_⟩ (by simp)
        rw [if_pos rfl] at eL
        rw [take_succ_of eL]
        exact L2.Paired.snoc (ties_same hz3 v) ⟨c1, rfl, g1⟩
      · refine ⟨_, rfl, g, _, _, _, rfl, rfl, SqL.of g3, atI_nat (j := 1) rfl, ?_⟩
        refine hN _ _ _ ⟨_, _, _, rfl⟩ ⟨s3.trans v, ?_⟩ (by simp)
        rw [if_neg (by decide)] at eL
        rw [take_succ_of eL]
        exact L2.Paired.snoc (ties_same hz3 v) ⟨c2, rfl, g2⟩
    · rintro ys H2 ⟨s2, hz⟩ l hl
      have s3 := Same.new (o := HO.lst ys) hl
      rw [show xs.length = (leadsP ps wy).length by rw [leadsP_len wl]; exact xl, List.take_length] at hz
      exact q l ys _ (s2.trans s3) upd_same (ties_same hz s3)
theorem scLPtg : FnScope ["_law_many", "_law_found", "_law_mask"] ["_law_many"] (defScope sLPtg) := ⟨rfl, rfl, rfl, by decide +kernel, rfl, by decide +kernel, by decide +kernel⟩
theorem ndKMM : (["_law_k", "_law_many", "_law_mask"] : List Str).Nodup := by decide +kernel
theorem d_lptg (T : Txt K mg) (S : Src K mg "_law_pointings" sLPtg ["_law_many"]) : Def P w K mg base 1 "_law_pointings" ["_law_many"] spLPtg := by
  refine S.def scLPtg (fun vs H Q E h => ?_) (fun f cdv A outer s H vs Q E hr h => ?_)
  · obtain ⟨_, rfl, _⟩ := h; rfl
  · obtain ⟨m, rfl, m8, q⟩ := h
    refine ⟨_, pss_cons (ps_set (i := 1) scLPtg.nd rfl (Or.inl rfl) (pe_lst pa_nil))
      (pss_cons (ps_for PassesOwn.never rfl (pi_range1 rfl T.range (pa_cons (pe_op op_shl pe_int (pv 0)) pa_nil)) (pg_name (i := 2) scLPtg.nd rfl (Or.inr rfl))
        (pss_one (ps_expr (pe_bm PySem.F.plainAttrs_list PySem.F.slot_list_append PySem.F.type_list_append mt_append (pv 1) (pa_cons (pe_callTy (call_tuple_ofK K) rfl T.tuple boot_tuple' (pa_cons (pe_comp (N' := ["_law_k", "_law_many", "_law_mask"]) (fr := [none, some 0, some 2]) (compOk_of (by rfl)) rfl (pi_range1 rfl T.range (pa_cons (pv 0) pa_nil))
          (fun _ _ _ _ => pg_name (i := 0) ndKMM rfl (Or.inl rfl) (Or.inr rfl)) (fun _ _ _ _ => pifs_nil) (fun _ _ _ _ => pe_op op_and (pe_op op_shr (pv 2) (pe_op op_sub (pe_op op_sub (pv 1) pe_int) (pv 0))) pe_int)) pa_nil)) pa_nil)))))
      (pss_one (ps_ret (pv 1)))), ?_⟩
    refine ⟨Nat.zero_le _, fun g hg => ?_⟩
    have s0 := Same.new (o := HO.lst []) hg
    have g0 : (upd H g (.lst [])) g = some (.lst []) := upd_same
    generalize upd H g (.lst []) = H1 at s0 g0 ⊢
    have e2 : (1 : Int) * 2 ^ ((m : Nat) : Int).toNat = ((2 ^ m : Nat) : Int) := by rw [Int.one_mul, Int.toNat_natCast, Int.natCast_pow]; rfl
    have p256 := pow_le8 m8
    have i256 : ((2 ^ m : Nat) : Int) <= 256 := Int.ofNat_le.mpr p256
    have i0 : 0 <= ((2 ^ m : Nat) : Int) := Int.natCast_nonneg _
    refine ⟨_, rfl, _, _, rfl, rfl, ⟨by lia, by lia, by decide⟩, _, rfl, ?_⟩
    rw [e2]
    refine ⟨by revert i0 i256; generalize ((2 ^ m : Nat) : Int) = z; lia, by revert i0 i256; generalize ((2 ^ m : Nat) : Int) = z; lia, ?_⟩
    rw [Int.toNat_natCast]
    refine for_range (lo := 0) (n := 2 ^ m) (fun j σ H' => (∃ u, σ = [some (.int (m : Int)), some (.ref g), u]) /\ Same H H' /\ ∃ zs, H' g = some (.lst zs) /\ Paired (TupAt H') zs ((allW m).take j)) ⟨⟨_, rfl⟩, s0, [], g0, .nil⟩ ?_ ?_
    · rintro j σ H2 hj ⟨⟨u, rfl⟩, s2, zs, hz, pz⟩
      rw [show (0 : Int) + (j : Int) = (j : Int) by lia]
      dsimp only [gName, List.set]
      have zl : zs.length <= 256 := by rw [Paired.length pz, List.length_take]; lia
      refine ⟨_, rfl, .inl ⟨rfl, _, SqL.of hz⟩, _, rfl, (m : Int), rfl, by lia, by lia, ?_⟩
      rw [Int.toNat_natCast]
      refine comp_range (lo := 0) (n := m) (fun σ => ∃ v, σ = [v, some (.int (m : Int)), some (.int (j : Int))]) (fun i ys H5 => H5 = H2 /\ ys = ((bitsN m j).take i).map V.int) ⟨_, rfl⟩ ⟨rfl, rfl⟩ (ten_line (by lia)) ?_ ?_
      · rintro i ys σ H5 N hi ⟨u2, rfl⟩ ⟨rfl, rfl⟩ hN
        rw [show (0 : Int) + (i : Int) = (i : Int) by lia]
        dsimp only [gName, List.set]
        refine yesT ⟨_, rfl, _, rfl, _, _, rfl, rfl, _, rfl, _, _, rfl, rfl, _, _, rfl, rfl, (by show (0 : Int) <= (m : Int) - 1 - (i : Int); lia), _, _, rfl, rfl, ?_⟩
        refine hN _ _ _ ⟨_, rfl⟩ ⟨rfl, ?_⟩ (by simp)
        have eb : (bitsN m j)[i]? = some (if j.testBit (m - 1 - i) then 1 else 0) := by unfold bitsN; simp [hi]
        rw [take_succ_of eb, List.map_append]
        have e3 : ((m : Int) - 1 - (i : Int)).toNat = m - 1 - i := by lia
        show _ = _ ++ [V.int _]
        rw [<- bit01, e3]
      · rintro ys H5 ⟨rfl, rfl⟩ p hp
        have bl : (bitsN m j).length = m := by unfold bitsN; simp
        have et : (bitsN m j).take m = bitsN m j := List.take_of_length_le (by lia)
        rw [et]
        refine ⟨p, _, rfl, .inl ⟨SqL.of upd_same, fun t ht4 => ?_⟩⟩
        have s4 := (Same.new (o := HO.lst ((bitsN m j).map V.int)) hp).trans (Same.new (o := HO.tup ((bitsN m j).map V.int)) ht4)
        have h4 : (upd (upd H5 p (.lst ((bitsN m j).map V.int))) t (.tup ((bitsN m j).map V.int))) t = some (.tup ((bitsN m j).map V.int)) := upd_same
        generalize upd (upd H5 p (.lst ((bitsN m j).map V.int))) t (.tup ((bitsN m j).map V.int)) = H6 at s4 h4 ⊢
        have hz6 := s4 _ _ hz
        refine ⟨g, zs, .ref t, rfl, rfl, hz6, line300 (by lia), ⟨_, rfl⟩, put_fresh (s2.trans s4) hg, zs ++ [.ref t], upd_same, ?_⟩
        rw [take_succ_of (allW_get m8 hj)]
        exact tups_putl (L2.Paired.snoc (tups_same pz s4) ⟨t, rfl, h4⟩) hz6
    · rintro σ H2 ⟨⟨u, rfl⟩, s2, zs, hz, pz⟩
      rw [<- allW_len m, List.take_length] at pz
      exact ⟨_, rfl, q g zs H2 s2 hz pz⟩
theorem scLWh : FnScope ["_law_found"] ["_law_found"] (defScope sLWh) := ⟨rfl, rfl, rfl, by decide +kernel, rfl, by decide +kernel, by decide +kernel⟩
theorem d_lwh (T : Txt K mg) (S : Src K mg "_law_whole" sLWh ["_law_found"]) : Def P w K mg base 1 "_law_whole" ["_law_found"] spLWh := by
  refine S.def scLWh (fun vs H Q E h => ?_) (fun f cdv A outer s H vs Q E hr h => ?_)
  · obtain ⟨_, rfl, _⟩ := h; rfl
  · obtain ⟨k, rfl, q⟩ := h
    refine ⟨_, pss_one (ps_ret (pe_and (pe_callB (call_isiK K) (by rfl) T.isi boot_isi (pa_cons (pv 0) (pa_cons (pe_bltn (v := .ty "int") rfl T.int boot_int' rfl) pa_nil)))
      (pe_one (pe_not (pe_callB (call_isiK K) (by rfl) T.isi boot_isi (pa_cons (pv 0) (pa_cons (pe_bltn (v := .ty "bool") rfl T.bool boot_bool' rfl) pa_nil))))))), ?_⟩
    exact ⟨_, rfl, _, _, _, _, _, rfl, rfl, .int _, kp_int K, _, rfl, iteT ⟨_, rfl, _, _, _, _, _, rfl, rfl, .int _, kp_intb K, _, rfl, q⟩⟩
end
def scoreP (n : Int) (L : List (Int × Int)) : List Int := (ups n).map fun k => (((L.map (·.1)).count k : Nat) : Int)
theorem score_len (n : Int) (L : List (Int × Int)) : (scoreP n L).length = n.toNat := by unfold scoreP; rw [List.length_map, ups_len]
structure IsSc (n : Int) (ps : List (Int × Int)) (mss : List (List Int)) : Prop where
  mem : ∀ k, k ∈ mss ↔ ∃ w ∈ allW ps.length, scoreP n (leadsP ps w) = k
  nd : mss.Nodup
  up : mss.Pairwise LexLe
theorem lex_anti : ∀ {a b : List Int}, LexLe a b -> LexLe b a -> a = b
  | [], [], _, _ => rfl
  | [], _ :: _, _, h => by cases h
  | _ :: _, [], h, _ => by cases h
  | x :: xs, y :: ys, h1, h2 => by
    unfold LexLe at h1 h2
    rw [HT.lexLt_cons] at h1 h2
    by_cases e : x = y
    · rw [if_pos e.symm] at h1
      rw [if_pos e] at h2
      rw [e, lex_anti (a := xs) (b := ys) h1 h2]
    · rw [if_neg (Ne.symm e)] at h1
      rw [if_neg e] at h2
      have := of_decide_eq_false h1
      have := of_decide_eq_false h2
      exact absurd (by lia) e
theorem up_ext : ∀ {L M : List (List Int)}, L.Pairwise LexLe -> M.Pairwise LexLe -> L.Nodup -> M.Nodup -> (∀ t, t ∈ L ↔ t ∈ M) -> L = M
  | [], [], _, _, _, _, _ => rfl
  | [], b :: M, _, _, _, _, h => nomatch (h b).mpr List.mem_cons_self
  | a :: L, [], _, _, _, _, h => nomatch (h a).mp List.mem_cons_self
  | a :: L, b :: M, h1, h2, n1, n2, h => by
    obtain ⟨a1, a2⟩ := List.pairwise_cons.mp h1
    obtain ⟨b1, b2⟩ := List.pairwise_cons.mp h2
    obtain ⟨c1, c2⟩ := List.nodup_cons.mp n1
    obtain ⟨d1, d2⟩ := List.nodup_cons.mp n2
    have e : a = b := by
      rcases List.mem_cons.mp ((h a).mp List.mem_cons_self) with z | z
      · exact z
      · rcases List.mem_cons.mp ((h b).mpr List.mem_cons_self) with y | y
        · exact y.symm
        · exact lex_anti (a1 b y) (b1 a z)
    subst e
    rw [up_ext a2 b2 c2 d2 fun t => ?_]
    have := h t
    rw [List.mem_cons, List.mem_cons] at this
    constructor
    · intro z
      rcases this.mp (.inr z) with y | y
      · rw [y] at z; exact absurd z c1
      · exact y
    · intro z
      rcases this.mpr (.inr z) with y | y
      · rw [y] at z; exact absurd z d1
      · exact y
theorem IsSc.uniq {n : Int} {ps : List (Int × Int)} {L M : List (List Int)} (h1 : IsSc n ps L) (h2 : IsSc n ps M) : L = M :=
  up_ext h1.up h2.up h1.nd h2.nd fun t => (h1.mem t).trans (h2.mem t).symm
def spScore (K : W.Frag) : Sp := fun vs H Q _ => ∃ (wv : V) (pt : Addr) (n : Int) (ps : List (Int × Int)) (w : List Int), vs = [wv, .ref pt] /\ WebAt H wv n ps /\ WebOk n ps /\ SqT K H pt (w.map V.int) /\ w.length = ps.length /\
  ∀ t H', Same H H' -> H' t = some (.tup ((scoreP n (leadsP ps w)).map V.int)) -> Q (.ref t) H'
def spAllSc (K : W.Frag) : Sp := fun vs H Q _ => ∃ (wv : V) (n : Int) (ps : List (Int × Int)), vs = [wv] /\ WebAt H wv n ps /\ WebOk n ps /\ ps.length <= 7 /\
  ∀ l zs mss H', Same H H' -> H l = none -> H' l = some (.lst zs) -> Paired (IntsAt H') zs mss -> IsSc n ps mss -> Q (.ref l) H'
def spPtgOf (K : W.Frag) : Sp := fun vs H Q _ => ∃ (wv : V) (sc : Addr) (n : Int) (ps : List (Int × Int)) (ks : List Int), vs = [wv, .ref sc] /\ WebAt H wv n ps /\ WebOk n ps /\ SqT K H sc (ks.map V.int) /\
  (∀ H', Same H H' -> (∀ w ∈ allW ps.length, scoreP n (leadsP ps w) ≠ ks) -> Q .non H') /\ (∀ w t H', Same H H' -> w ∈ allW ps.length -> scoreP n (leadsP ps w) = ks -> H' t = some (.tup (w.map V.int)) -> Q (.ref t) H')
theorem count_take {n : Nat} (L : List Int) {i : Nat} (hi : i < n) : (((ups (n : Int)).map fun k => ((L.count k : Nat) : Int)).take (i + 1)) = (((ups (n : Int)).map fun k => ((L.count k : Nat) : Int)).take i) ++ [((L.count (i : Int) : Nat) : Int)] := by
  have e : ((ups (n : Int)).map fun k => ((L.count k : Nat) : Int))[i]? = some ((L.count (i : Int) : Nat) : Int) := by rw [List.getElem?_map, ups_get hi]; rfl
  exact take_succ_of e
section
variable {P : Program} {w : World} {K : W.Frag} {mg : Str -> Option Value} {base : Heap}
theorem scScoreOf : FnScope ["web", "pointing", "starts"] ["web", "pointing"] (defScope sScoreOf) := ⟨rfl, rfl, rfl, by decide +kernel, rfl, by decide +kernel, by decide +kernel⟩
theorem ndLd : (["lead"] : List Str).Nodup := by decide +kernel
theorem ndPS : (["point", "starts"] : List Str).Nodup := by decide +kernel
theorem d_scoreof (T : Txt K mg) (S : Src K mg "score_of" sScoreOf ["web", "pointing"]) (DL : Def P w K mg base 1 "leads_of" ["web", "pointing"] (spLeads K)) : Def P w K mg base 2 "score_of" ["web", "pointing"] (spScore K) := by
  refine S.def scScoreOf (fun vs H Q E h => ?_) (fun f cdv A outer s H vs Q E hr h => ?_)
  · obtain ⟨_, _, _, _, _, rfl, _⟩ := h; rfl
  · obtain ⟨wv, pt, n, ps, wy, rfl, W, ok, hp, wl, q⟩ := h
    obtain ⟨⟨n1, n9⟩, hb, h8⟩ := id ok
    refine ⟨_, pss_cons (ps_set (i := 2) scScoreOf.nd rfl (Or.inr rfl) (pe_comp (N' := ["lead"]) (fr := [none]) (compOk_of (by rfl)) rfl (pi_seqK K .l (pe_def DL hr rfl (pa_cons (pv 0) (pa_cons (pv 1) pa_nil))))
        (fun _ _ _ _ => pg_name (i := 0) ndLd rfl (Or.inl rfl) (Or.inr rfl)) (fun _ _ _ _ => pifs_nil) (fun _ _ _ _ => pe_ix (r := rIxT K) (ix_tupK K) (pv 0) pe_int (fun _ _ => rfl))))
      (pss_one (ps_ret (pe_callTy (call_tuple_ofK K) rfl T.tuple boot_tuple' (pa_cons (pe_comp (te := tBM K "list" rCount (tVar 1) (tCons (tVar 0) tNil)) (N' := ["point", "starts"]) (fr := [none, some 2]) (compOk_of (by rfl)) rfl (pi_range1 rfl T.range (pa_cons (pe_ix (ix_tupK K) (pv 0) pe_int (fun _ _ => rfl)) pa_nil))
        (fun _ _ _ _ => pg_name (i := 0) ndPS rfl (Or.inl rfl) (Or.inr rfl)) (fun _ _ _ _ => pifs_nil) (fun _ _ _ _ => pe_bm PySem.F.plainAttrs_list PySem.F.slot_list_count PySem.F.type_list_count mt_count (pv 1) (pa_cons (pv 0) pa_nil))) pa_nil)))), ?_⟩
    refine ⟨_, rfl, _, rfl, wv, pt, n, ps, wy, rfl, W, hp, wl, h8, fun l xs H1 s1 hl hx => ?_⟩
    have ll := leadsP_len wl
    have xl := Paired.length hx
    refine ⟨l, rfl, ⟨_, SqL.of hl⟩, comp_seq (k := .l) (a := l) (xs := xs) (fun σ => ∃ v, σ = [v]) (fun j ys H' => H' = H1 /\ ys = (((leadsP ps wy).take j).map (·.1)).map V.int) ⟨_, rfl⟩ ⟨rfl, rfl⟩ (ten_line (by lia)) (fun j ys H' _ z => SqL.of (by rw [z.1]; exact hl)) ?_ ?_⟩
    · rintro j x ys σ H' N hxx ⟨u, rfl⟩ ⟨rfl, rfl⟩ hN
      obtain ⟨p, ep, b, rfl, hb'⟩ := Paired.at hx hxx
      dsimp only [gName, List.set]
      refine yesT ⟨_, rfl, b, _, _, _, rfl, rfl, SqT.of hb', atI_nat (j := 0) rfl, ?_⟩
      refine hN _ _ _ ⟨_, rfl⟩ ⟨rfl, ?_⟩ (by simp)
      rw [take_succ_of ep, List.map_append, List.map_append]
      rfl
    rintro ys H' ⟨rfl, rfl⟩ g hg
    rw [xl, List.take_length]
    have s2 := Same.new (o := HO.lst (((leadsP ps wy).map (·.1)).map V.int)) hg
    have hg2 : (upd H' g (.lst (((leadsP ps wy).map (·.1)).map V.int))) g = some (.lst (((leadsP ps wy).map (·.1)).map V.int)) := upd_same
    generalize upd H' g (.lst (((leadsP ps wy).map (·.1)).map V.int)) = H2 at s2 hg2 ⊢
    dsimp only [gName, List.set]
    have s12 := s1.trans s2
    obtain ⟨c, d, xs2, rfl, hc, hd, ht⟩ := (W.same s12).ex
    refine ⟨_, rfl, c, _, _, _, rfl, rfl, SqT.of hc, atI_nat (j := 0) rfl, n, rfl, by lia, by lia, ?_⟩
    obtain ⟨m, rfl⟩ : ∃ m : Nat, n = (m : Int) := ⟨n.toNat, by lia⟩
    rw [Int.toNat_natCast]
    refine comp_range (lo := 0) (n := m) (fun σ => ∃ v, σ = [v, some (.ref g)]) (fun i ys H3 => H3 = H2 /\ ys = ((scoreP (m : Int) (leadsP ps wy)).take i).map V.int) ⟨_, rfl⟩ ⟨rfl, rfl⟩ (ten_line (by lia)) ?_ ?_
    · rintro i ys σ H3 N hi ⟨u, rfl⟩ ⟨rfl, rfl⟩ hN
      rw [show (0 : Int) + (i : Int) = (i : Int) by lia]
      dsimp only [gName, List.set]
      refine yesT ⟨_, rfl, .inl ⟨rfl, _, SqL.of hg2⟩, _, rfl, g, _, _, rfl, rfl, hg2, ?_⟩
      refine hN _ _ _ ⟨_, rfl⟩ ⟨rfl, ?_⟩ (by simp)
      unfold scoreP
      rw [count_take _ hi, List.map_append]
      rfl
    · rintro ys H3 ⟨rfl, rfl⟩ p hp'
      rw [List.take_of_length_le (l := scoreP (m : Int) (leadsP ps wy)) (by rw [score_len, Int.toNat_natCast]; exact Nat.le_refl _)]
      exact ⟨p, _, rfl, .inl ⟨SqL.of upd_same, fun t ht' => q t _ (s12.trans ((Same.new hp').trans (Same.new ht'))) upd_same⟩⟩
theorem scAllSc : FnScope ["web"] ["web"] (defScope sAllSc) := ⟨rfl, rfl, rfl, by decide +kernel, rfl, by decide +kernel, by decide +kernel⟩
theorem ndPW : (["pointing", "web"] : List Str).Nodup := by decide +kernel
theorem d_allsc (hset : mg "set" = none) (hsort : mg "sorted" = none) (S : Src K mg "all_scores" sAllSc ["web"]) (DP : Def P w K mg base 2 "all_pointings" ["web"] (spPtg K)) (DS : Def P w K mg base 2 "score_of" ["web", "pointing"] (spScore K)) : Def P w K mg base 3 "all_scores" ["web"] (spAllSc K) := by
  refine S.def scAllSc (fun vs H Q E h => ?_) (fun f cdv A outer s H vs Q E hr h => ?_)
  · obtain ⟨_, _, _, rfl, _⟩ := h; rfl
  · obtain ⟨wv, n, ps, rfl, W, ok, h7, q⟩ := h
    obtain ⟨⟨n1, n9⟩, hb, h8⟩ := id ok
    refine ⟨_, pss_one (ps_ret (pe_sortset (units66 hr) rfl rfl hsort rfl hset (pe_comp (N' := ["pointing", "web"]) (fr := [none, some 0]) (compOk_of (by rfl)) rfl (pi_seqK K .l (pe_def DP hr rfl (pa_cons (pv 0) pa_nil)))
      (fun _ _ _ _ => pg_name (i := 0) ndPW rfl (Or.inl rfl) (Or.inr rfl)) (fun _ _ _ _ => pifs_nil) (fun _ _ _ _ => pe_def DS hr rfl (pa_cons (pv 1) (pa_cons (pv 0) pa_nil)))))), ?_⟩
    refine ⟨_, rfl, wv, n, ps, rfl, W, h8, fun g ys H1 s1 _ hg hy => ?_⟩
    have yl := Paired.length hy
    have al := allW_len ps.length
    have p128 : 2 ^ ps.length <= 128 := Nat.pow_le_pow_right (by decide) h7
    refine ⟨g, rfl, ⟨_, SqL.of hg⟩, comp_seq (k := .l) (a := g) (xs := ys) (fun σ => ∃ v, σ = [v, some wv]) (fun j zs H2 => Same H1 H2 /\ Paired (IntsAt H2) zs (((allW ps.length).take j).map fun w => scoreP n (leadsP ps w))) ⟨_, rfl⟩ ⟨Same.refl _, .nil⟩ (line300 (by lia)) (fun j zs H2 _ z => SqL.of (z.1 _ _ hg)) ?_ ?_⟩
    · rintro j x zs σ H2 N hx ⟨u, rfl⟩ ⟨s2, hz⟩ hN
      obtain ⟨wy, ew, c, rfl, hc⟩ := Paired.at hy hx
      obtain ⟨wl, w01⟩ := mem_allW.mp (List.mem_of_getElem? ew)
      dsimp only [gName, List.set]
      refine yesT ⟨_, rfl, _, rfl, wv, c, n, ps, wy, rfl, W.same (s1.trans s2), ok, SqT.of (s2 _ _ hc), wl, fun t H3 s3 ht => ?_⟩
      refine hN _ _ _ ⟨_, rfl⟩ ⟨s2.trans s3, ?_⟩ (by simp)
      rw [take_succ_of ew, List.map_append]
      exact L2.Paired.snoc (L2.Paired.mapP hz fun _ _ z => z.same s3) ⟨t, rfl, ht⟩
    rintro zs H2 ⟨s2, hz⟩ l hl
    rw [yl, List.take_length] at hz
    have s3 := Same.new (o := HO.lst zs) hl
    refine ⟨l, zs, _, rfl, SqL.of upd_same, L2.Paired.mapP hz fun _ _ z => z.same s3, fun ks hk => ?_, by rw [List.length_map]; lia, fun l4 zs4 mss p4 m4 n4 u4 hl4 => ?_⟩
    · obtain ⟨wy, _, rfl⟩ := List.mem_map.mp hk
      intro z
      have := score_len n (leadsP ps wy)
      rw [z] at this
      simp at this
      lia
    · have s4 := Same.new (o := HO.lst zs4) hl4
      refine q l4 zs4 mss _ (s1.trans (s2.trans (s3.trans s4))) (was_none (s1.trans (s2.trans s3)) hl4) upd_same (L2.Paired.mapP p4 fun _ _ z => z.same s4) ⟨fun k => ?_, n4, u4⟩
      rw [m4, List.mem_map]
theorem scPtgOf : FnScope ["web", "score", "pointing"] ["web", "score"] (defScope sPtgOf) := ⟨rfl, rfl, rfl, by decide +kernel, rfl, by decide +kernel, by decide +kernel⟩
theorem d_ptgof (S : Src K mg "pointing_of" sPtgOf ["web", "score"]) (DP : Def P w K mg base 2 "all_pointings" ["web"] (spPtg K)) (DS : Def P w K mg base 2 "score_of" ["web", "pointing"] (spScore K)) : Def P w K mg base 3 "pointing_of" ["web", "score"] (spPtgOf K) := by
  refine S.def scPtgOf (fun vs H Q E h => ?_) (fun f cdv A outer s H vs Q E hr h => ?_)
  · obtain ⟨_, _, _, _, _, rfl, _⟩ := h; rfl
  · obtain ⟨wv, sc, n, ps, ks, rfl, W, ok, hsc, q1, q2⟩ := h
    obtain ⟨⟨n1, n9⟩, hb, h8⟩ := id ok
    refine ⟨_, pss_cons (ps_for PassesOwn.never rfl (pi_seqK K .l (pe_def DP hr rfl (pa_cons (pv 0) pa_nil))) (pg_name (i := 2) scPtgOf.nd rfl (Or.inl rfl))
        (pss_one (ps_if (pt_cmpR (r := rEqT K) (op_eqT (units66 hr)) (pe_def DS hr rfl (pa_cons (pv 0) (pa_cons (pv 2) pa_nil))) (pv 1) (nomark _)) (pss_one (ps_ret (pv 2))) pss_nil)))
      (pss_one (ps_ret pe_non)), ?_⟩
    refine ⟨_, rfl, wv, n, ps, rfl, W, h8, fun g ys H1 s1 _ hg hy => ?_⟩
    have yl := Paired.length hy
    refine ⟨g, rfl, ⟨_, SqL.of hg⟩, for_seq (k := .l) (K := K) (a := g) (xs := ys) (fun i σ H' => (∃ u, σ = [some wv, some (.ref sc), u]) /\ Same H1 H' /\ ∀ w ∈ (allW ps.length).take i, scoreP n (leadsP ps w) ≠ ks) ⟨⟨_, rfl⟩, Same.refl _, fun _ z => nomatch z⟩ (fun i σ H' _ z => SqL.of (z.2.1 _ _ hg)) ?_ ?_⟩
    · rintro i x σ H2 hx ⟨⟨u, rfl⟩, s2, hno⟩
      obtain ⟨wy, ew, c, rfl, hc⟩ := Paired.at hy hx
      obtain ⟨wl, w01⟩ := mem_allW.mp (List.mem_of_getElem? ew)
      dsimp only [gName, List.set]
      refine ⟨_, rfl, _, rfl, wv, c, n, ps, wy, rfl, W.same (s1.trans s2), ok, SqT.of (s2 _ _ hc), wl, fun t H3 s3 ht => ?_⟩
      refine ⟨_, rfl, t, sc, _, ks, rfl, rfl, SqT.of ht, sqT (s1.trans (s2.trans s3)) hsc, _, rfl, ?_⟩
      refine ite2 (fun z => ?_) (fun z => ?_)
      · exact ⟨_, rfl, q2 wy c H3 (s1.trans (s2.trans s3)) (List.mem_of_getElem? ew) (of_decide_eq_true z) (s3 _ _ (s2 _ _ hc))⟩
      · refine ⟨⟨_, rfl⟩, s2.trans s3, fun w hw => ?_⟩
        rw [take_succ_of ew] at hw
        rcases List.mem_append.mp hw with hw | hw
        · exact hno w hw
        · rw [List.mem_singleton.mp hw]
          exact of_decide_eq_false (by simpa using z)
    · rintro σ H2 ⟨⟨u, rfl⟩, s2, hno⟩
      rw [yl, List.take_length] at hno
      exact q1 H2 (s1.trans s2) hno
end
def spLScore : Sp := fun vs H Q _ => ∃ (l : Addr) (n : Int) (xs : List V) (L : List (Int × Int)), vs = [.int n, .ref l] /\ H l = some (.lst xs) /\ Paired (TieAt H) xs L /\ L.length <= 8 /\ 1 <= n /\ n <= 9 /\ ∀ t H', Same H H' -> H' t = some (.tup ((scoreP n L).map V.int)) -> Q (.ref t) H'
def spAsked (K : W.Frag) : Sp := fun vs H Q _ => ∃ (c n : Int) (g : Addr) (zs : List V) (mss : List (List Int)), vs = [.int c, .ref g, .int n] /\ H g = some (.lst zs) /\ Paired (IntsAt H) zs mss /\ mss ≠ [] /\ (∀ m ∈ mss, m.length = n.toNat) /\ 1 <= n /\ n <= 9 /\
  ∀ (t : Addr) (ks : List Int) (H' : Hp), Same H H' -> H' t = some (.tup (ks.map V.int)) -> Q (.ref t) H'
def spRight (K : W.Frag) : Sp := fun vs H Q _ => ∃ (wv : V) (sc g : Addr) (n : Int) (ps : List (Int × Int)) (ks : List Int) (zs : List V) (mss : List (List Int)), vs = [wv, .ref sc, .ref g] /\ WebAt H wv n ps /\ WebOk n ps /\ H sc = some (.tup (ks.map V.int)) /\ H g = some (.lst zs) /\ Paired (IntsAt H) zs mss /\ IsSc n ps mss /\ ∀ H', Same H H' -> Q (.bl true) H'
theorem p59 : (0 : Int) < 10 ^ (59 : Int).toNat := by decide +kernel
theorem list_ints {H : Hp} {zs : List V} {mss : List (List Int)} (h : Paired (IntsAt H) zs mss) {i : Nat} (hi : i < mss.length) : ∃ a ks, zs[i]? = some (.ref a) /\ mss[i]? = some ks /\ H a = some (.tup (ks.map V.int)) := by
  have zl := Paired.length h
  obtain ⟨ks, e, a, ea, ha⟩ := Paired.at h (i := i) (a := zs[i]) (by simp [show i < zs.length by lia])
  exact ⟨a, ks, by rw [<- ea]; simp [show i < zs.length by lia], e, ha⟩
theorem same_ts {K : W.Frag} {H : Hp} {a b : Addr} {ks : List Int} (ha : H a = some (.tup (ks.map V.int))) (hb : H b = some (.tup (ks.map V.int))) {Q : VK} {out : Bool} (q : Q (.bl out) H) : rSame K out (.ref a) (.ref b) H Q := by
  refine ⟨a, b, _, _, 1, rfl, rfl, .inl ⟨SqT.of ha, SqT.of hb⟩, rfl, by decide, fun i x y e1 e2 => ?_, q⟩
  rw [e1] at e2
  cases e2
  obtain ⟨k, _, rfl⟩ := get_int' e1
  exact .flat rfl
section
variable {P : Program} {w : World} {K : W.Frag} {mg : Str -> Option Value} {base : Heap}
theorem scLScore : FnScope ["_law_points_here", "_law_leads_here", "_law_starts"] ["_law_points_here", "_law_leads_here"] (defScope sLScore) := ⟨rfl, rfl, rfl, by decide +kernel, rfl, by decide +kernel, by decide +kernel⟩
theorem ndLab : (["_law_a", "_law_b"] : List Str).Nodup := by decide +kernel
theorem ndLps : (["_law_point", "_law_starts"] : List Str).Nodup := by decide +kernel
theorem d_lscore (T : Txt K mg) (S : Src K mg "_law_score" sLScore ["_law_points_here", "_law_leads_here"]) : Def P w K mg base 1 "_law_score" ["_law_points_here", "_law_leads_here"] spLScore := by
  refine S.def scLScore (fun vs H Q E h => ?_) (fun f cdv A outer s H vs Q E hr h => ?_)
  · obtain ⟨_, _, _, _, rfl, _⟩ := h; rfl
  · obtain ⟨l, n, xs, L, rfl, hl, hx, l8, n1, n9, q⟩ := h
    refine ⟨_, pss_cons (ps_set (i := 2) scLScore.nd rfl (Or.inr rfl) (pe_comp (N' := ["_law_a", "_law_b"]) (fr := [none, none]) (compOk_of (by rfl)) rfl (pi_seqK K .l (pv 1))
        (g := gTup K 2 (gCons (gName 0) (gCons (gName 1) gNil))) (fun _ _ _ _ => pg_tupK K 2 rfl (pgs_cons (pg_name (i := 0) ndLab rfl (Or.inl rfl) (Or.inr rfl)) (pgs_cons (pg_name (i := 1) ndLab rfl (Or.inl rfl) (Or.inr rfl)) pgs_nil))) (fun _ _ _ _ => pifs_nil) (fun _ _ _ _ => pv 0)))
      (pss_one (ps_ret (pe_callTy (call_tuple_ofK K) rfl T.tuple boot_tuple' (pa_cons (pe_comp (te := tBM K "list" rCount (tVar 1) (tCons (tVar 0) tNil)) (N' := ["_law_point", "_law_starts"]) (fr := [none, some 2]) (compOk_of (by rfl)) rfl (pi_range1 rfl T.range (pa_cons (pv 0) pa_nil))
        (fun _ _ _ _ => pg_name (i := 0) ndLps rfl (Or.inl rfl) (Or.inr rfl)) (fun _ _ _ _ => pifs_nil) (fun _ _ _ _ => pe_bm PySem.F.plainAttrs_list PySem.F.slot_list_count PySem.F.type_list_count mt_count (pv 1) (pa_cons (pv 0) pa_nil))) pa_nil)))), ?_⟩
    have xl := Paired.length hx
    refine ⟨_, rfl, l, rfl, ⟨_, SqL.of hl⟩, comp_seq (k := .l) (a := l) (xs := xs) (fun σ => ∃ u v, σ = [u, v]) (fun j ys H' => H' = H /\ ys = ((L.take j).map (·.1)).map V.int) ⟨_, _, rfl⟩ ⟨rfl, rfl⟩ (ten_line (by lia)) (fun j ys H' _ z => SqL.of (by rw [z.1]; exact hl)) ?_ ?_⟩
    · rintro j x ys σ H' N hxx ⟨u, v, rfl⟩ ⟨rfl, rfl⟩ hN
      obtain ⟨p, ep, b, rfl, hb'⟩ := Paired.at hx hxx
      refine ⟨b, _, rfl, SqT.of hb', rfl, _, _, rfl, _, _, rfl, rfl, ?_⟩
      dsimp only [gName, List.set]
      refine yesT ⟨_, rfl, ?_⟩
      refine hN _ _ _ ⟨_, _, rfl⟩ ⟨rfl, ?_⟩ (by simp)
      rw [take_succ_of ep, List.map_append, List.map_append]
      rfl
    rintro ys H' ⟨rfl, rfl⟩ g hg
    rw [xl, List.take_length]
    have s2 := Same.new (o := HO.lst ((L.map (·.1)).map V.int)) hg
    have hg2 : (upd H' g (.lst ((L.map (·.1)).map V.int))) g = some (.lst ((L.map (·.1)).map V.int)) := upd_same
    generalize upd H' g (.lst ((L.map (·.1)).map V.int)) = H2 at s2 hg2 ⊢
    dsimp only [gName, List.set]
    obtain ⟨m, rfl⟩ : ∃ m : Nat, n = (m : Int) := ⟨n.toNat, by lia⟩
    refine ⟨_, rfl, (m : Int), rfl, by lia, by lia, ?_⟩
    rw [Int.toNat_natCast]
    refine comp_range (lo := 0) (n := m) (fun σ => ∃ v, σ = [v, some (.ref g)]) (fun i ys H3 => H3 = H2 /\ ys = ((scoreP (m : Int) L).take i).map V.int) ⟨_, rfl⟩ ⟨rfl, rfl⟩ (ten_line (by lia)) ?_ ?_
    · rintro i ys σ H3 N hi ⟨u, rfl⟩ ⟨rfl, rfl⟩ hN
      rw [show (0 : Int) + (i : Int) = (i : Int) by lia]
      dsimp only [gName, List.set]
      refine yesT ⟨_, rfl, .inl ⟨rfl, _, SqL.of hg2⟩, _, rfl, g, _, _, rfl, rfl, hg2, ?_⟩
      refine hN _ _ _ ⟨_, rfl⟩ ⟨rfl, ?_⟩ (by simp)
      unfold scoreP
      rw [count_take _ hi, List.map_append]
      rfl
    · rintro ys H3 ⟨rfl, rfl⟩ p hp'
      rw [List.take_of_length_le (l := scoreP (m : Int) L) (by rw [score_len, Int.toNat_natCast]; exact Nat.le_refl _)]
      exact ⟨p, _, rfl, .inl ⟨SqL.of upd_same, fun t ht' => q t _ (s2.trans ((Same.new hp').trans (Same.new ht'))) upd_same⟩⟩
theorem scAsked : FnScope ["_law_cell", "_law_due", "_law_points_here", "_law_score_here", "_law_row", "_law_far"] ["_law_cell", "_law_due", "_law_points_here"] (defScope sAsked) := ⟨rfl, rfl, rfl, by decide +kernel, rfl, by decide +kernel, by decide +kernel⟩
theorem ndKcf : (["_law_k", "_law_cell", "_law_far"] : List Str).Nodup := by decide +kernel
theorem d_asked (T : Txt K mg) (S : Src K mg "_law_asked" sAsked ["_law_cell", "_law_due", "_law_points_here"]) : Def P w K mg base 1 "_law_asked" ["_law_cell", "_law_due", "_law_points_here"] (spAsked K) := by
  refine S.def scAsked (fun vs H Q E h => ?_) (fun f cdv A outer s H vs Q E hr h => ?_)
  · obtain ⟨_, _, _, _, _, rfl, _⟩ := h; rfl
  · obtain ⟨c, n, g, zs, mss, rfl, hg, hz, ne, ln, n1, n9, q⟩ := h
    refine ⟨_, pss_cons (ps_set (i := 3) scAsked.nd rfl (Or.inl rfl) (pe_ix (ix_listK K) (pv 1) (pe_op op_mod (pe_op op_fdiv (pv 0) pe_int) (pe_callB (call_lenK K) (by rfl) T.len PySem.boot_len (pa_cons (pv 1) pa_nil))) (fun _ _ => rfl)))
      (pss_cons (ps_if (pt_cmpR op_lt (pe_op op_mod (pv 0) pe_int) pe_int (nomark _)) (pss_one (ps_ret (pv 3))) pss_nil)
      (pss_cons (ps_if (pt_cmpR op_lt (pe_op op_mod (pv 0) pe_int) pe_int (nomark _))
        (pss_cons (ps_set (i := 4) scAsked.nd rfl (Or.inl rfl) (pe_callTy (call_list_ofK K) rfl T.list boot_list' (pa_cons (pv 3) pa_nil)))
        (pss_cons (ps_augS (tget := rGetL K) (pv 4) (pe_op op_mod (pe_op op_fdiv (pv 0) pe_int) (pv 2)) get_listP pe_int ip_sub set_list)
        (pss_cons (ps_augS (tget := rGetL K) (pv 4) (pe_op op_mod (pe_op op_fdiv (pv 0) pe_int) (pv 2)) get_listP pe_int ip_add set_list)
        (pss_one (ps_ret (pe_callTy (call_tuple_ofK K) rfl T.tuple boot_tuple' (pa_cons (pv 4) pa_nil))))))) pss_nil)
      (pss_cons (ps_set (i := 5) scAsked.nd rfl (Or.inr rfl) (pe_op op_mod (pe_op op_fdiv (pv 0) pe_int) (pe_op op_pow pe_int pe_int)))
      (pss_one (ps_ret (pe_callTy (call_tuple_ofK K) rfl T.tuple boot_tuple' (pa_cons (pe_comp (N' := ["_law_k", "_law_cell", "_law_far"]) (fr := [none, some 0, some 5]) (compOk_of (by rfl)) rfl (pi_range1 rfl T.range (pa_cons (pv 2) pa_nil))
        (fun _ _ _ _ => pg_name (i := 0) ndKcf rfl (Or.inl rfl) (Or.inr rfl)) (fun _ _ _ _ => pifs_nil) (fun _ _ _ _ => pe_ix (r := rIxL K) (ix_listK K) (pe_lst (pa_cons (pe_op op_sub (pv 0) pe_int) (pa_cons (pe_op op_sub pe_int (pv 0)) (pa_cons (pe_op op_add (pv 2) (pv 0)) (pa_cons (pe_op op_sub (pe_un un_neg pe_int) (pv 2)) pa_nil))))) (pe_op op_mod (pe_op op_add (pe_op op_fdiv (pv 1) pe_int) (pv 0)) pe_int) (fun _ _ => rfl))) pa_nil))))))), ?_⟩
    have zl := Paired.length hz
    have ml : 0 < mss.length := List.length_pos_iff.mpr ne
    have mi := mod_in (c / 5) (zs.length : Int) (by lia)
    obtain ⟨a, ks, e1, e2, ha⟩ := list_ints hz (i := (c / 5 % (zs.length : Int)).toNat) (by lia)
    have at1 : atI zs (c / 5 % (zs.length : Int)) = some (.ref a) := by
      have := atI_nat (j := (c / 5 % (zs.length : Int)).toNat) e1
      rw [Int.toNat_of_nonneg mi.1] at this
      exact this
    have kl := ln ks (List.mem_of_getElem? e2)
    refine seq_abs fun M hM => ?_
    refine ⟨_, rfl, _, rfl, _, _, rfl, rfl, ⟨by decide, by decide⟩, _, rfl, g, zs, rfl, .inl (SqL.of hg), _, _, rfl, rfl, (by show (0 : Int) < (zs.length : Int); lia), g, _, _, _, rfl, rfl, SqL.of hg, at1, hM _ _ ?_⟩
    clear hM M
    refine seq_abs fun M hM => ?_
    refine ⟨_, rfl, _, _, rfl, rfl, (by show (0 : Int) < 5; decide), _, _, rfl, rfl, _, rfl, ?_⟩
    refine ite2 (fun _ => ⟨_, rfl, q a ks _ (Same.refl _) ha⟩) (fun _ => hM _ _ ?_)
    clear hM M
    refine seq_abs fun M hM => ?_
    refine ⟨_, rfl, _, _, rfl, rfl, (by show (0 : Int) < 5; decide), _, _, rfl, rfl, _, rfl, ?_⟩
    refine ite2 (fun _ => ?_) (fun _ => hM _ _ ?_)
    · have m1 := mod_in (c / 640) n (by lia)
      have m2 := mod_in (c / 5760) n (by lia)
      refine ⟨_, rfl, a, _, rfl, .inr (SqT.of ha), fun l hl => ?_⟩
      have s1 := Same.new (o := HO.lst (ks.map V.int)) hl
      have hl1 : (upd H l (.lst (ks.map V.int))) l = some (.lst (ks.map V.int)) := upd_same
      generalize upd H l (.lst (ks.map V.int)) = H1 at s1 hl1 ⊢
      have g1 : (ks.map V.int)[(c / 640 % n).toNat]? = some (.int (ks.getD (c / 640 % n).toNat 0)) := by
        rw [List.getElem?_map, List.getElem?_eq_getElem (by lia), List.getD_eq_getElem?_getD, List.getElem?_eq_getElem (by lia)]
        rfl
      have ix1 : ixN (ks.map V.int).length (c / 640 % n) = some (c / 640 % n).toNat := by
        unfold ixN
        rw [List.length_map]
        rw [if_pos m1.1, if_pos (by lia)]
      refine ⟨_, rfl, _, rfl, _, _, rfl, rfl, ⟨by decide, by decide⟩, _, rfl, _, _, rfl, rfl, (by show (0 : Int) < n; lia), l, _, _, _, rfl, rfl, SqL.of hl1, m1.1, g1, _, _, rfl, rfl, l, _, _, _, rfl, rfl, hl1, ix1, ?_⟩
      rw [<- List.map_set]
      have s2 : Same H (upd H1 l (.lst ((ks.set (c / 640 % n).toNat (ks.getD (c / 640 % n).toNat 0 - 1)).map V.int))) := put_fresh s1 hl
      have hl2 : (upd H1 l (.lst ((ks.set (c / 640 % n).toNat (ks.getD (c / 640 % n).toNat 0 - 1)).map V.int))) l = some (.lst ((ks.set (c / 640 % n).toNat (ks.getD (c / 640 % n).toNat 0 - 1)).map V.int)) := upd_same
      have kl2 : (ks.set (c / 640 % n).toNat (ks.getD (c / 640 % n).toNat 0 - 1)).length = n.toNat := by rw [List.length_set]; exact kl
      generalize ks.set (c / 640 % n).toNat (ks.getD (c / 640 % n).toNat 0 - 1) = k2 at s2 hl2 kl2 ⊢
      generalize upd H1 l (.lst (k2.map V.int)) = H2 at s2 hl2 ⊢
      have g2 : (k2.map V.int)[(c / 5760 % n).toNat]? = some (.int (k2.getD (c / 5760 % n).toNat 0)) := by
        rw [List.getElem?_map, List.getElem?_eq_getElem (by lia), List.getD_eq_getElem?_getD, List.getElem?_eq_getElem (by lia)]
        rfl
      have ix2 : ixN (k2.map V.int).length (c / 5760 % n) = some (c / 5760 % n).toNat := by
        unfold ixN
        rw [List.length_map]
        rw [if_pos m2.1, if_pos (by lia)]
      refine ⟨_, rfl, _, rfl, _, _, rfl, rfl, ⟨by decide, by decide⟩, _, rfl, _, _, rfl, rfl, (by show (0 : Int) < n; lia), l, _, _, _, rfl, rfl, SqL.of hl2, m2.1, g2, _, _, rfl, rfl, l, _, _, _, rfl, rfl, hl2, ix2, ?_⟩
      rw [<- List.map_set]
      refine ⟨_, rfl, l, _, rfl, .inl ⟨SqL.of upd_same, fun t ht => ?_⟩⟩
      exact q t _ _ ((put_fresh s2 hl).trans (Same.new ht)) upd_same
    · clear hM M
      refine seq_abs fun M hM => ?_
      refine ⟨_, rfl, _, _, rfl, rfl, ⟨by decide, by decide⟩, _, _, rfl, rfl, ⟨by decide, by decide, by decide⟩, _, _, rfl, rfl, p59, hM _ _ ?_⟩
      clear hM M
      dsimp only
      generalize c / 30 % 10 ^ (59 : Int).toNat = far
      obtain ⟨m, rfl⟩ : ∃ m : Nat, n = (m : Int) := ⟨n.toNat, by lia⟩
      refine ⟨_, rfl, (m : Int), rfl, by lia, by lia, ?_⟩
      rw [Int.toNat_natCast]
      refine comp_range (lo := 0) (n := m) (fun σ => ∃ v, σ = [v, some (.int c), some (.int far)]) (fun i ys H' => Same H H' /\ ∃ us : List Int, ys = us.map V.int) ⟨_, rfl⟩ ⟨Same.refl _, [], rfl⟩ (ten_line (by lia)) ?_ ?_
      · rintro i ys σ H2 N hi ⟨u, rfl⟩ ⟨sm, us, rfl⟩ hN
        rw [show (0 : Int) + (i : Int) = (i : Int) by lia]
        dsimp only [gName, List.set]
        refine yesT ⟨_, rfl, _, _, rfl, rfl, _, rfl, _, _, rfl, rfl, _, rfl, _, rfl, _, _, rfl, rfl, _, rfl, _, rfl, _, _, rfl, rfl, by show 4 <= sizeLine; decide, fun l hl => ?_⟩
        have s3 := Same.new (o := HO.lst [.int ((i : Int) - 2), .int (3 - (i : Int)), .int (far + (i : Int)), .int (-1 - far)]) hl
        have m4 := mod_in (c / 5 + (i : Int)) 4 (by decide)
        obtain ⟨z, hz⟩ : ∃ z : Int, atI ([.int ((i : Int) - 2), .int (3 - (i : Int)), .int (far + (i : Int)), .int (-1 - far)] : List V) ((c / 5 + (i : Int)) % 4) = some (.int z) := by
          have : (c / 5 + (i : Int)) % 4 = 0 \/ (c / 5 + (i : Int)) % 4 = 1 \/ (c / 5 + (i : Int)) % 4 = 2 \/ (c / 5 + (i : Int)) % 4 = 3 := by lia
          rcases this with y | y | y | y <;> rw [y]
          · exact ⟨_, atI_nat (j := 0) rfl⟩
          · exact ⟨_, atI_nat (j := 1) rfl⟩
          · exact ⟨_, atI_nat (j := 2) rfl⟩
          · exact ⟨_, atI_nat (j := 3) rfl⟩
        refine ⟨_, rfl, _, _, rfl, rfl, ⟨by decide, by decide⟩, _, rfl, _, _, rfl, rfl, _, _, rfl, rfl, (by show (0 : Int) < 4; decide), l, _, _, _, rfl, rfl, SqL.of upd_same, hz, ?_⟩
        refine hN _ _ _ ⟨_, rfl⟩ ⟨sm.trans s3, us ++ [z], by rw [List.map_append]; rfl⟩ (by simp)
      · rintro ys H2 ⟨sm, us, rfl⟩ p hp'
        exact ⟨p, _, rfl, .inl ⟨SqL.of upd_same, fun t ht' => q t us _ (sm.trans ((Same.new hp').trans (Same.new ht'))) upd_same⟩⟩
theorem scRight : FnScope ["_law_web", "_law_score_here", "_law_due", "_law_points_here", "_law_ties", "_law_found"] ["_law_web", "_law_score_here", "_law_due"] (defScope sRight) := ⟨rfl, rfl, rfl, by decide +kernel, rfl, by decide +kernel, by decide +kernel⟩
theorem ndTn : (["_law_turn"] : List Str).Nodup := by decide +kernel
theorem d_right (T : Txt K mg) (S : Src K mg "_law_pointing_right" sRight ["_law_web", "_law_score_here", "_law_due"]) (DP : Def P w K mg base 3 "pointing_of" ["web", "score"] (spPtgOf K)) (DW : Def P w K mg base 1 "_law_whole" ["_law_found"] spLWh) (DL : Def P w K mg base 1 "_law_leads" ["_law_ties", "_law_pointing"] (spLLeads K)) (DS : Def P w K mg base 1 "_law_score" ["_law_points_here", "_law_leads_here"] spLScore) : Def P w K mg base 4 "_law_pointing_right" ["_law_web", "_law_score_here", "_law_due"] (spRight K) := by
  refine S.def scRight (fun vs H Q E h => ?_) (fun f cdv A outer s H vs Q E hr h => ?_)
  · obtain ⟨_, _, _, _, _, _, _, _, rfl, _⟩ := h; rfl
  · obtain ⟨wv, sc, g, n, ps, ks, zs, mss, rfl, W, ok, hsc, hg, hz, sc0, q⟩ := h
    obtain ⟨⟨n1, n9⟩, hb, h8⟩ := id ok
    have hr1 : Room 1 _ := hr.mono (by decide)
    refine ⟨_, pss_cons (ps_asg (pv 0) (pg_tupK K 2 rfl (pgs_cons (pg_name (i := 3) scRight.nd rfl (Or.inl rfl)) (pgs_cons (pg_name (i := 4) scRight.nd rfl (Or.inl rfl)) pgs_nil))))
      (pss_cons (ps_set (i := 5) scRight.nd rfl (Or.inl rfl) (pe_def DP hr rfl (pa_cons (pv 0) (pa_cons (pv 1) pa_nil))))
      (pss_cons (ps_if (pt_cmpR (op_notInT (units66 hr)) (pv 1) (pv 2) rfl) (pss_one (ps_ret (pe_cmpR op_isN (pv 5) pe_non rfl))) pss_nil)
      (pss_cons (ps_if (PW.pt (pw_or (pt_not (pt_val (pe_callB (call_isiK K) (by rfl) T.isi boot_isi (pa_cons (pv 5) (pa_cons (pe_bltn (v := .ty "tuple") rfl T.tuple boot_tuple' rfl) pa_nil))))) (pw_or1 (pt_cmpR op_ne (pe_callB (call_lenK K) (by rfl) T.len PySem.boot_len (pa_cons (pv 5) pa_nil)) (pe_callB (call_lenK K) (by rfl) T.len PySem.boot_len (pa_cons (pv 4) pa_nil)) (nomark _))))) (pss_one (ps_ret pe_bl)) pss_nil)
      (pss_cons (ps_if (pt_cmpR (op_neNilK K (units66 hr)) (pe_comp (N' := ["_law_turn"]) (fr := [none]) (compOk_of (by rfl)) rfl (pi_seqK K .t (pv 5)) (fun _ _ _ _ => pg_name (i := 0) ndTn rfl (Or.inl rfl) (Or.inr rfl)) (fun _ _ _ _ => pifs_one (PW.pt (pw_or (pt_not (pt_val (pe_def DW hr1 rfl (pa_cons (pv 0) pa_nil)))) (pw_or (pt_cmpR op_lt (pv 0) pe_int (nomark _)) (pw_or1 (pt_cmpR op_gt (pv 0) pe_int (nomark _))))))) (fun _ _ _ _ => pv 0)) (pe_lst pa_nil) (nomark _)) (pss_one (ps_ret pe_bl)) pss_nil)
      (pss_one (ps_ret (pe_cmpR (op_eqSK K (units66 hr)) (pe_def DS hr1 rfl (pa_cons (pv 3) (pa_cons (pe_def DL hr1 rfl (pa_cons (pv 4) (pa_cons (pv 5) pa_nil))) pa_nil))) (pv 1) (nomark _)))))))), ?_⟩
    obtain ⟨c, d, xs, rfl, hc, hd, ht⟩ := id W.ex
    have xl := Paired.length ht
    refine seq_abs fun M hM => ?_
    refine ⟨_, rfl, c, _, rfl, SqT.of hc, rfl, _, _, rfl, _, _, rfl, rfl, hM _ _ ?_⟩
    clear hM M
    dsimp only [List.set]
    have inn : ∀ b, b = decide (ks ∈ mss) -> (if (true : Bool) = true then !b else b) = !decide (ks ∈ mss) := fun b e => by rw [if_pos rfl, e]
    refine seq_abs fun M hM => ?_
    refine ⟨_, rfl, _, rfl, _, sc, n, ps, ks, rfl, W, ok, SqT.of hsc, fun H1 s1 no => hM _ _ ?_, fun wy t H1 s1 mem eq hT => hM _ _ ?_⟩
    · clear hM M
      have nm : ks ∉ mss := fun z => by
        obtain ⟨w, hw, e⟩ := (sc0.mem ks).mp z
        exact no w hw e
      refine seq_abs fun M hM => ?_
      refine ⟨_, rfl, _, rfl, sc, g, zs, ks, mss, rfl, rfl, SqT.of (s1 _ _ hsc), SqL.of (s1 _ _ hg), L2.Paired.mapP hz fun _ _ z => z.same s1, _, rfl, ?_⟩
      rw [if_pos rfl, decide_eq_false nm]
      exact iteT ⟨_, rfl, rfl, q H1 s1⟩
    · have ym : ks ∈ mss := (sc0.mem ks).mpr ⟨wy, mem, eq⟩
      obtain ⟨wl, w01⟩ := mem_allW.mp mem
      refine seq_abs fun M hM => ?_
      refine ⟨_, rfl, _, rfl, sc, g, zs, ks, mss, rfl, rfl, SqT.of (s1 _ _ hsc), SqL.of (s1 _ _ hg), L2.Paired.mapP hz fun _ _ z => z.same s1, _, rfl, ?_⟩
      rw [if_pos rfl, decide_eq_true ym]
      refine iteF (hM _ _ ?_)
      clear hM M
      refine seq_abs fun M hM => ?_
      refine ⟨_, rfl, _, _, _, _, _, rfl, rfl, .tup hT, kp_tup K, _, rfl, iteF ?_⟩
      refine ⟨_, rfl, t, _, rfl, .inr (SqT.of hT), _, rfl, d, xs, rfl, .inr (SqT.of (s1 _ _ hd)), rfl, _, rfl, ?_⟩
      rw [List.length_map, wl, xl, decide_eq_true rfl]
      refine iteF (hM _ _ ?_)
      clear hM M
      refine seq_abs fun M hM => ?_
      refine ⟨_, rfl, t, rfl, ⟨_, SqT.of hT⟩, comp_seq (k := .t) (a := t) (xs := wy.map V.int) (fun σ => ∃ u, σ = [u]) (fun j ys H2 => H2 = H1 /\ ys = []) ⟨_, rfl⟩ ⟨rfl, rfl⟩ (by rw [List.length_map]; exact ten_line (by lia)) (fun j ys H2 _ z => SqT.of (by rw [z.1]; exact hT)) ?_ ?_⟩
      · rintro j x ys σ H2 N hx ⟨u, rfl⟩ ⟨rfl, rfl⟩ hN
        obtain ⟨k, ek, rfl⟩ := get_int' hx
        dsimp only [gName, List.set]
        have k01 := w01 k (List.mem_of_getElem? ek)
        refine ⟨_, rfl, k, rfl, _, rfl, iteF ⟨_, rfl, _, _, rfl, rfl, _, rfl, ?_⟩⟩
        rw [decide_eq_false (show ¬ k < 0 by lia)]
        refine iteF ⟨_, rfl, _, _, rfl, rfl, _, rfl, ?_⟩
        rw [decide_eq_false (show ¬ 1 < k by lia)]
        exact iteF (hN _ _ _ ⟨_, rfl⟩ ⟨rfl, rfl⟩ (by simp))
      rintro ys2 H2 ⟨rfl, rfl⟩ p2 hp2
      refine ⟨Nat.zero_le _, fun e he => ⟨p2, e, [], rfl, rfl, SqL.of (Same.new he _ _ upd_same), SqL.of upd_same, _, rfl, iteF (hM _ _ ?_)⟩⟩
      clear hM M
      have s3 := (Same.new (o := HO.lst []) hp2).trans (Same.new (o := HO.lst []) he)
      have s13 := s1.trans s3
      generalize upd (upd H2 p2 (.lst [])) e (.lst []) = H3 at s3 s13 ⊢
      refine ⟨_, rfl, _, rfl, _, rfl, d, t, xs, ps, wy, rfl, s13 _ _ hd, ties_same ht s13, SqT.of (s3 _ _ hT), wl, w01, h8, fun l4 ys4 H4 s4 hl4 hz4 => ?_⟩
      refine ⟨l4, n, ys4, _, rfl, hl4, hz4, by rw [leadsP_len wl]; exact h8, n1, n9, fun t5 H5 s5 ht5 => ⟨_, rfl, ?_⟩⟩
      rw [eq] at ht5
      have s15 := s13.trans (s4.trans s5)
      obtain ⟨_⟩ := ok
      exact same_ts ht5 (s15 _ _ hsc) (q H5 s15)
end
def spLaw (K : W.Frag) : Sp := fun vs H Q _ => ∃ (a : Addr) (ns : List Int), vs = [.ref a] /\ SqL K H a (ns.map V.int) /\ ns.length <= 63 /\ ∀ H', Q (.bl true) H'
theorem ints_same {H H' : Hp} {xs : List V} {ps : List (List Int)} (h : Paired (IntsAt H) xs ps) (e : Same H H') : Paired (IntsAt H') xs ps := L2.Paired.mapP h fun _ _ q => q.same e
theorem allW_ne (m : Nat) : ∃ w, w ∈ allW m := by
  have := allW_len m
  cases h : allW m with
  | nil => rw [h] at this; have := Nat.two_pow_pos m; simp at *; lia
  | cons a l => exact ⟨a, List.mem_cons_self⟩
theorem IsSc.len {n : Int} {ps : List (Int × Int)} {mss : List (List Int)} (h : IsSc n ps mss) : ∀ m ∈ mss, m.length = n.toNat := fun m hm => by
  obtain ⟨w, _, rfl⟩ := (h.mem m).mp hm
  exact score_len n _
theorem IsSc.ne {n : Int} {ps : List (Int × Int)} {mss : List (List Int)} (h : IsSc n ps mss) : mss ≠ [] := fun z => by
  obtain ⟨w, hw⟩ := allW_ne ps.length
  have := (h.mem _).mpr ⟨w, hw, rfl⟩
  rw [z] at this
  exact nomatch this
theorem nd_sub_len {α : Type} [DecidableEq α] : ∀ {l m : List α}, l.Nodup -> (∀ x ∈ l, x ∈ m) -> l.length <= m.length
  | [], _, _, _ => Nat.zero_le _
  | a :: l, m, nd, h => by
    obtain ⟨n1, n2⟩ := List.nodup_cons.mp nd
    have ha := h a List.mem_cons_self
    have := nd_sub_len (l := l) (m := m.erase a) n2 fun x hx => (List.mem_erase_of_ne (fun e => n1 (by rw [<- e]; exact hx))).mpr (h x (List.mem_cons_of_mem _ hx))
    have e := List.length_erase_of_mem ha
    have : 0 < m.length := List.length_pos_of_mem ha
    rw [List.length_cons]
    lia
section
variable {P : Program} {w : World} {K : W.Frag} {mg : Str -> Option Value} {base : Heap}
theorem scLaw : FnScope ["_law_script", "_law_points_here", "_law_ties", "_law_web", "_law_due", "_law_told", "_law_score_here", "_law_cell"] ["_law_script"] (defScope sLaw) := ⟨rfl, rfl, rfl, by decide +kernel, rfl, by decide +kernel, by decide +kernel⟩
theorem ndOpt : (["_law_one", "_law_points_here", "_law_ties"] : List Str).Nodup := by decide +kernel
theorem ndNum : (["_law_number"] : List Str).Nodup := by decide +kernel
theorem ok_law {f : Addr} {fd : FuncData} (F : Fun K "law" "law" sLaw f fd) (T : Txt K mg) (hset : mg "set" = none) (hsort : mg "sorted" = none) (DA : Def P w K mg base 1 "_law_at" ["_law_script", "_law_k"] (spAt K)) (DD : Def P w K mg base 2 "_law_drawn_web" ["_law_script"] (spDrawn K)) (DM : Def P w K mg base 4 "made_web" ["points", "ties"] (spMade K)) (DP : Def P w K mg base 1 "_law_pointings" ["_law_many"] spLPtg) (DL : Def P w K mg base 1 "_law_leads" ["_law_ties", "_law_pointing"] (spLLeads K))
    (DS : Def P w K mg base 1 "_law_score" ["_law_points_here", "_law_leads_here"] spLScore) (DC : Def P w K mg base 3 "all_scores" ["web"] (spAllSc K)) (DW : Def P w K mg base 1 "_law_whole" ["_law_found"] spLWh) (DK : Def P w K mg base 1 "_law_asked" ["_law_cell", "_law_due", "_law_points_here"] (spAsked K)) (DR : Def P w K mg base 4 "_law_pointing_right" ["_law_web", "_law_score_here", "_law_due"] (spRight K)) : FnOk P w K mg base CX0 5 f fd ["_law_script"] (spLaw K) := by
  refine F.ok scLaw (fun vs H Q E h => ?_) (fun cdv A outer s H vs Q E hr h => ?_)
  · obtain ⟨a, ns, rfl, _⟩ := h; rfl
  · obtain ⟨a, ns, rfl, hq, hlen, q⟩ := h
    have hr1 : Room 1 _ := hr.mono (by decide)
    have hr2 : Room 2 _ := hr.mono (by decide)
    have hr3 : Room 3 _ := hr.mono (by decide)
    refine ⟨_, pss_cons (ps_asg (pe_def DD hr2 rfl (pa_cons (pv 0) pa_nil)) (pg_tupK K 2 rfl (pgs_cons (pg_name (i := 1) scLaw.nd rfl (Or.inr rfl)) (pgs_cons (pg_name (i := 2) scLaw.nd rfl (Or.inr rfl)) pgs_nil))))
      (pss_cons (ps_set (i := 3) scLaw.nd rfl (Or.inl rfl) (pe_def DM hr rfl (pa_cons (pv 1) (pa_cons (pv 2) pa_nil))))
      (pss_cons (ps_set (i := 4) scLaw.nd rfl (Or.inl rfl) (pe_sortset (units66 hr) rfl rfl hsort rfl hset (pe_comp (N' := ["_law_one", "_law_points_here", "_law_ties"]) (fr := [none, some 1, some 2]) (compOk_of (by rfl)) rfl (pi_seqK K .l (pe_def DP hr1 rfl (pa_cons (pe_callB (call_lenK K) (by rfl) T.len PySem.boot_len (pa_cons (pv 2) pa_nil)) pa_nil)))
        (fun _ _ _ _ => pg_name (i := 0) ndOpt rfl (Or.inl rfl) (Or.inr rfl)) (fun _ _ _ _ => pifs_nil) (fun _ _ _ _ => pe_def DS hr1 rfl (pa_cons (pv 1) (pa_cons (pe_def DL hr1 rfl (pa_cons (pv 2) (pa_cons (pv 0) pa_nil))) pa_nil))))))
      (pss_cons (ps_set (i := 5) scLaw.nd rfl (Or.inl rfl) (pe_def DC hr3 rfl (pa_cons (pv 3) pa_nil)))
      (pss_cons (ps_if (PW.pt (pw_or (pt_not (pt_val (pe_callB (call_isiK K) (by rfl) T.isi boot_isi (pa_cons (pv 5) (pa_cons (pe_bltn (v := .ty "list") rfl T.list boot_list' rfl) pa_nil))))) (pw_or1 (pt_cmpR (op_neSK K (units66 hr)) (pv 5) (pv 4) (nomark _))))) (pss_one (ps_ret pe_bl)) pss_nil)
      (pss_cons (ps_for PassesOwn.never rfl (pi_seqK K .l (pv 5)) (pg_name (i := 6) scLaw.nd rfl (Or.inl rfl))
        (pss_one (ps_if (PW.pt (pw_or (pt_not (pt_val (pe_callB (call_isiK K) (by rfl) T.isi boot_isi (pa_cons (pv 6) (pa_cons (pe_bltn (v := .ty "tuple") rfl T.tuple boot_tuple' rfl) pa_nil))))) (pw_or1 (pt_cmpR (op_neNilK K (units66 hr)) (pe_comp (N' := ["_law_number"]) (fr := [none]) (compOk_of (by rfl)) rfl (pi_seqK K .t (pv 6)) (fun _ _ _ _ => pg_name (i := 0) ndNum rfl (Or.inl rfl) (Or.inr rfl)) (fun _ _ _ _ => pifs_one (pt_not (pt_val (pe_def DW hr1 rfl (pa_cons (pv 0) pa_nil))))) (fun _ _ _ _ => pv 0)) (pe_lst pa_nil) (nomark _))))) (pss_one (ps_ret pe_bl)) pss_nil)))
      (pss_cons (ps_expr (pe_bm PySem.F.plainAttrs_list PySem.F.slot_list_append PySem.F.type_list_append mt_append (pv 5) (pa_cons (pe_tup pa_nil) pa_nil)))
      (pss_cons (ps_for PassesOwn.never rfl (pi_seqK K .l (pe_op op_cat (pe_lst (pa_cons (pe_def DA hr1 rfl (pa_cons (pv 0) (pa_cons pe_int pa_nil))) pa_nil)) (pe_slice (sl_listK K) (pv 0) (po_some pe_int) (po_some pe_int)))) (pg_name (i := 7) scLaw.nd rfl (Or.inl rfl))
        (pss_one (ps_if (pt_not (pt_val (pe_def DR hr rfl (pa_cons (pv 3) (pa_cons (pe_def DK hr1 rfl (pa_cons (pv 7) (pa_cons (pv 4) (pa_cons (pv 1) pa_nil)))) (pa_cons (pv 4) pa_nil)))))) (pss_one (ps_ret pe_bl)) pss_nil)))
      (pss_one (ps_ret (pe_and (pe_cmpR (op_eqSK K (units66 hr)) (pe_def DC hr3 rfl (pa_cons (pv 3) pa_nil)) (pv 4) (nomark _)) (pe_one (pe_cmpR (op_eqSK K (units66 hr)) (pv 3) (pe_tup (pa_cons (pv 1) (pa_cons (pv 2) pa_nil))) (nomark _))))))))))))), ?_⟩
    refine seq_abs fun M hM => ?_
    refine ⟨_, rfl, a, ns, rfl, hq, fun wv0 n ps H1 s1 W0 ok hn h7 => ?_⟩
    obtain ⟨⟨n1, n9⟩, hb, h8⟩ := id ok
    obtain ⟨c0, d, xs, rfl, hc0, hd, ht⟩ := id W0.ex
    have xl : xs.length = ps.length := Paired.length ht
    refine ⟨c0, _, rfl, SqT.of hc0, rfl, _, _, rfl, _, _, rfl, rfl, hM _ _ ?_⟩
    clear hM M
    dsimp only [List.set]
    refine seq_abs fun M hM => ?_
    refine ⟨_, rfl, _, rfl, .t, d, n, xs, ps, rfl, n1, n9, SqT.of hd, ht, h8, hb, fun wv H2 s2 W => hM _ _ ?_⟩
    clear hM M
    rw [norms hn] at W
    replace hd := s2 _ _ hd
    replace ht := ties_same ht s2
    replace hq := (s1.trans s2).seq hq
    clear s1 s2 W0 hc0
    refine seq_abs fun M hM => ?_
    refine ⟨_, rfl, d, xs, rfl, .inr (SqT.of hd), ps.length, by rw [xl]; rfl, h8, fun g ys H3 s3 hg hy => ?_⟩
    have yl : ys.length = (allW ps.length).length := Paired.length hy
    have al := allW_len ps.length
    have p128 : 2 ^ ps.length <= 128 := Nat.pow_le_pow_right (by decide) h7
    refine ⟨g, rfl, ⟨_, SqL.of hg⟩, comp_seq (k := .l) (a := g) (xs := ys) (fun σ => ∃ v, σ = [v, some (.int n), some (.ref d)]) (fun j zs H4 => Same H3 H4 /\ Paired (IntsAt H4) zs (((allW ps.length).take j).map fun w => scoreP n (leadsP ps w))) ⟨_, rfl⟩ ⟨Same.refl _, .nil⟩ (line300 (by lia)) (fun j zs H4 _ z => SqL.of (z.1 _ _ hg)) ?_ ?_⟩
    · rintro j x zs σ H4 N hx ⟨u, rfl⟩ ⟨s4, hz⟩ hN
      obtain ⟨wy, ew, c, rfl, hc⟩ := Paired.at hy hx
      obtain ⟨wl, w01⟩ := mem_allW.mp (List.mem_of_getElem? ew)
      dsimp only [gName, List.set]
      have s24 := s3.trans s4
      refine yesT ⟨_, rfl, _, rfl, _, rfl, d, c, xs, ps, wy, rfl, s24 _ _ hd, ties_same ht s24, SqT.of (s4 _ _ hc), wl, w01, h8, fun l5 ys5 H5 s5 hl5 hz5 => ?_⟩
      refine ⟨l5, n, ys5, _, rfl, hl5, hz5, by rw [leadsP_len wl]; exact h8, n1, n9, fun t6 H6 s6 ht6 => ?_⟩
      have s46 := s5.trans s6
      refine hN _ _ _ ⟨_, rfl⟩ ⟨s4.trans s46, ?_⟩ (by simp)
      rw [take_succ_of ew, List.map_append]
      exact L2.Paired.snoc (ints_same hz s46) ⟨t6, rfl, ht6⟩
    rintro zs0 H4 ⟨s4, hz⟩ l4 hl4
    rw [yl, List.take_length] at hz
    have s5 := Same.new (o := HO.lst zs0) hl4
    refine ⟨l4, zs0, _, rfl, SqL.of upd_same, ints_same hz s5, fun ks hk => ?_, by rw [List.length_map]; lia, fun gd zs mss p6 m6 n6 u6 hgd => ?_⟩
    · obtain ⟨wy, _, rfl⟩ := List.mem_map.mp hk
      intro z
      have := score_len n (leadsP ps wy)
      rw [z] at this
      simp at this
      lia
    have s6 := Same.new (o := HO.lst zs) hgd
    have hz5 := ints_same p6 s6
    have hgd5 : (upd (upd H4 l4 (.lst zs0)) gd (.lst zs)) gd = some (.lst zs) := upd_same
    have s26 := s3.trans (s4.trans (s5.trans s6))
    have isc : IsSc n ps mss := ⟨fun k => by rw [m6, List.mem_map], n6, u6⟩
    refine hM _ _ ?_
    clear hM M m6 n6 u6 p6 hz hy hg hl4 hgd s5 s6 s4 s3
    replace W := W.same s26
    replace hd := s26 _ _ hd
    replace ht := ties_same ht s26
    replace hq := s26.seq hq
    clear s26
    generalize upd (upd H4 l4 (.lst zs0)) gd (.lst zs) = H5 at W hd ht hq hz5 hgd5 ⊢
    have zl := Paired.length hz5
    refine seq_abs fun M hM => ?_
    refine ⟨_, rfl, wv, n, ps, rfl, W, ok, h7, fun gt yt mst H6 s6 gtN hgt hyt isc2 => hM _ _ ?_⟩
    clear hM M
    have em := isc2.uniq isc
    subst em
    refine seq_abs fun M hM => ?_
    refine ⟨_, rfl, _, _, _, _, _, rfl, rfl, .lst hgt, kp_lst K, _, rfl, iteF ?_⟩
    refine ⟨_, rfl, _, rfl, same_lists hgt (s6 _ _ hgd5) hyt (ints_same hz5 s6) ⟨_, rfl, iteF (hM _ _ ?_)⟩⟩
    clear hM M
    refine seq_abs fun M hM => ?_
    refine ⟨_, rfl, gt, rfl, ⟨_, SqL.of hgt⟩, for_seq (k := .l) (K := K) (a := gt) (xs := yt) (fun i σ H' => (∃ u, σ = [some (.ref a), some (.int n), some (.ref d), some wv, some (.ref gd), some (.ref gt), u, none]) /\ Same H6 H') ⟨⟨_, rfl⟩, Same.refl _⟩ (fun i σ H' _ z => SqL.of (z.2 _ _ hgt)) ?_ ?_⟩
    · rintro i x σ H8 hx ⟨⟨u, rfl⟩, s8⟩
      obtain ⟨ks, ek, c, rfl, hc⟩ := Paired.at hyt hx
      have hc8 := s8 _ _ hc
      have kl := isc.len ks (List.mem_of_getElem? ek)
      dsimp only [gName, List.set]
      refine ⟨_, rfl, _, _, _, _, _, rfl, rfl, .tup hc8, kp_tup K, _, rfl, iteF ?_⟩
      refine ⟨_, rfl, c, rfl, ⟨_, SqT.of hc8⟩, comp_seq (k := .t) (a := c) (xs := ks.map V.int) (fun σ => ∃ u, σ = [u]) (fun j ys H2 => H2 = H8 /\ ys = []) ⟨_, rfl⟩ ⟨rfl, rfl⟩ (by rw [List.length_map]; exact ten_line (by lia)) (fun j ys H2 _ z => SqT.of (by rw [z.1]; exact hc8)) ?_ ?_⟩
      · rintro j x ys σ H2 N hx ⟨u, rfl⟩ ⟨rfl, rfl⟩ hN
        obtain ⟨k, ek, rfl⟩ := get_int' hx
        dsimp only [gName, List.set]
        exact ⟨_, rfl, k, rfl, _, rfl, iteF (hN _ _ _ ⟨_, rfl⟩ ⟨rfl, rfl⟩ (by simp))⟩
      · rintro ys2 H2 ⟨rfl, rfl⟩ p2 hp2
        refine ⟨Nat.zero_le _, fun e he => ⟨p2, e, [], rfl, rfl, SqL.of (Same.new he _ _ upd_same), SqL.of upd_same, _, rfl, ?_⟩⟩
        exact iteF ⟨⟨_, rfl⟩, s8.trans ((Same.new hp2).trans (Same.new he))⟩
    rintro σ H8 ⟨⟨u, rfl⟩, s8⟩
    refine hM _ _ ?_
    clear hM M
    refine seq_abs fun M hM => ?_
    have hgt8 := s8 _ _ hgt
    have ytl : yt.length <= 300 := by
      have h1 := Paired.length hyt
      have h2 : mst.length <= (allW ps.length).length := by
        have sub : ∀ k ∈ mst, k ∈ (allW ps.length).map fun w => scoreP n (leadsP ps w) := fun k hk => by
          obtain ⟨w, hw, e⟩ := (isc.mem k).mp hk
          exact List.mem_map.mpr ⟨w, hw, e⟩
        have := nd_sub_len isc.nd sub
        rw [List.length_map] at this
        exact this
      lia
    refine ⟨_, rfl, .inl ⟨rfl, _, SqL.of hgt8⟩, Nat.zero_le _, fun e2 he2 => ⟨gt, _, .ref e2, rfl, rfl, Same.new he2 _ _ hgt8, line300 (by lia), ?_⟩⟩
    have s15 : Same H5 (upd (upd H8 e2 (.tup [])) gt (.lst (yt ++ [.ref e2]))) := put_fresh ((s6.trans s8).trans (Same.new he2)) gtN
    refine hM _ _ ?_
    clear hM M hgt8 hgt hyt isc2
    generalize upd (upd H8 e2 (.tup [])) gt (.lst (yt ++ [.ref e2])) = H15 at s15 ⊢
    clear s8 s6 he2
    refine seq_abs fun M hM => ?_
    obtain ⟨ms, em, ml⟩ := cut_map ns (some 2) (some 12)
    refine ⟨_, rfl, a, ns, 1, rfl, s15.seq hq, by show 1 <= sizeLine; decide, fun p1 hp1 => ?_⟩
    have t1 := Same.new (o := HO.lst [V.int (ns.getD 1 0)]) hp1
    refine ⟨_, rfl, _, rfl, _, rfl, a, _, rfl, (s15.trans t1).seq hq, fun p2 hp2 => ?_⟩
    rw [em]
    have t2 := Same.new (o := HO.lst (ms.map V.int)) hp2
    refine ⟨p1, p2, _, _, rfl, rfl, t2 _ _ upd_same, upd_same, Nat.le_of_lt (line300 (by rw [List.length_map]; show 1 + ms.length <= 300; lia)), fun p3 hp3 => ?_⟩
    have e3 : [V.int (ns.getD 1 0)] ++ ms.map V.int = (ns.getD 1 0 :: ms).map V.int := rfl
    rw [e3]
    have t3 := Same.new (o := HO.lst ((ns.getD 1 0 :: ms).map V.int)) hp3
    have hp3' : (upd (upd (upd H15 p1 (.lst [V.int (ns.getD 1 0)])) p2 (.lst (ms.map V.int))) p3 (.lst ((ns.getD 1 0 :: ms).map V.int))) p3 = some (.lst ((ns.getD 1 0 :: ms).map V.int)) := upd_same
    have s16 := s15.trans (t1.trans (t2.trans t3))
    generalize upd (upd (upd H15 p1 (.lst [V.int (ns.getD 1 0)])) p2 (.lst (ms.map V.int))) p3 (.lst ((ns.getD 1 0 :: ms).map V.int)) = H16 at hp3' s16 ⊢
    clear t1 t2 t3 hp1 hp2 hp3 s15
    refine ⟨p3, rfl, ⟨_, SqL.of hp3'⟩, for_seq (k := .l) (K := K) (a := p3) (xs := (ns.getD 1 0 :: ms).map V.int) (fun i σ H' => (∃ u v, σ = [some (.ref a), some (.int n), some (.ref d), some wv, some (.ref gd), some (.ref gt), u, v]) /\ Same H16 H') ⟨⟨_, _, rfl⟩, Same.refl _⟩ (fun i σ H' _ z => SqL.of (z.2 _ _ hp3')) ?_ ?_⟩
    · rintro i x σ H8 hx ⟨⟨u, v, rfl⟩, s8⟩
      obtain ⟨cell, _, rfl⟩ := get_int' hx
      dsimp only [gName, List.set]
      have s58 := s16.trans s8
      refine ⟨_, rfl, _, rfl, _, rfl, _, rfl, cell, n, gd, zs, mst, rfl, s58 _ _ hgd5, ints_same hz5 s58, isc.ne, isc.len, n1, n9, fun t9 ks H9 s9 ht9 => ?_⟩
      have s59 := s58.trans s9
      exact ⟨_, rfl, wv, t9, gd, n, ps, ks, zs, mst, rfl, W.same s59, ok, ht9, s59 _ _ hgd5, ints_same hz5 s59, isc, fun H10 s10 => ⟨_, rfl, iteF ⟨⟨_, _, rfl⟩, s8.trans (s9.trans s10)⟩⟩⟩
    rintro σ H8 ⟨⟨u, v, rfl⟩, s8⟩
    refine hM _ _ ?_
    clear hM M
    have s58 := s16.trans s8
    refine ⟨_, rfl, wv, n, ps, rfl, W.same s58, ok, h7, fun g9 y9 m9 H9 s9 _ hg9 hy9 isc9 => ?_⟩
    have em := isc9.uniq isc
    subst em
    have s59 := s58.trans s9
    refine ⟨_, rfl, same_lists hg9 (s59 _ _ hgd5) hy9 (ints_same hz5 s59) ⟨_, rfl, iteT ?_⟩⟩
    refine ⟨_, rfl, _, rfl, _, rfl, by show 2 <= sizeLine; decide, fun c22 hc22 => ?_⟩
    have s22 := s59.trans (Same.new (o := HO.tup [.int n, .ref d]) hc22)
    exact same_web (W.same s22) ⟨c22, d, xs, rfl, upd_same, s22 _ _ hd, ties_same ht s22⟩ (q _)
end
theorem src_mk {K : W.Frag} {h : Heap} {mg : Str -> Option Value} {x : Str} {st : Stmt} {f : Addr} {ps : List Str} {oc : Value} {od an : Option Addr} {osl : Array (Option Value)} {kV doc pm cdv ct : Value} (X : K.In h) (G : h.Ns mainGlobals mg)
    (a : PySem.W.nsIn K mainGlobals x = some (some (.ref f))) (l : K.lookup f = some ⟨oc, od, .func (PySem.W.fnOf x x (defArgs st) (defBody st) (defScope st) .none kV doc pm an cdv ct), osl⟩) (c : PySem.W.codeIn K cdv x = true) (k : PySem.W.keepIn K (.ref f) = true)
    (hb : ∀ (kV doc pm : Value) (an : Option Addr) (cdv ct : Value) (us : List Value), us.length = ps.length -> bindArgs (PySem.W.fnOf x x (defArgs st) (defBody st) (defScope st) .none kV doc pm an cdv ct) ⟨us, []⟩ = pure (ps.zip us)) : Src K mg x st ps :=
  ⟨_, _, fun_mk (st := st) l c k, (fun_mk (st := st) l c k).binds hb, PySem.W.mg_of X G a⟩
theorem all_mk {l : PySem.W.OpenLaw} {w : World} {K : W.Frag} {h : Heap} {mg : Str -> Option Value} {fa : Addr} (X : K.In h) (G : h.Ns mainGlobals mg) (hfa : mg "law" = some (.ref fa))
    {f0 : Addr} {od0 an0 : Option Addr} {sl0 : Array (Option Value)} {oc0 kV0 dc0 pm0 cd0 ct0 : Value}
    (a0 : PySem.W.nsIn K mainGlobals "is_whole" = some (some (.ref f0))) (l0 : K.lookup f0 = some ⟨oc0, od0, .func (PySem.W.fnOf "is_whole" "is_whole" (defArgs sIsWhole) (defBody sIsWhole) (defScope sIsWhole) .none kV0 dc0 pm0 an0 cd0 ct0), sl0⟩) (c0 : PySem.W.codeIn K cd0 "is_whole" = true) (k0 : PySem.W.keepIn K (.ref f0) = true)
    {f1 : Addr} {od1 an1 : Option Addr} {sl1 : Array (Option Value)} {oc1 kV1 dc1 pm1 cd1 ct1 : Value}
    (a1 : PySem.W.nsIn K mainGlobals "is_whole_within" = some (some (.ref f1))) (l1 : K.lookup f1 = some ⟨oc1, od1, .func (PySem.W.fnOf "is_whole_within" "is_whole_within" (defArgs sWithin) (defBody sWithin) (defScope sWithin) .none kV1 dc1 pm1 an1 cd1 ct1), sl1⟩) (c1 : PySem.W.codeIn K cd1 "is_whole_within" = true) (k1 : PySem.W.keepIn K (.ref f1) = true)
    {f2 : Addr} {od2 an2 : Option Addr} {sl2 : Array (Option Value)} {oc2 kV2 dc2 pm2 cd2 ct2 : Value}
    (a2 : PySem.W.nsIn K mainGlobals "made_web" = some (some (.ref f2))) (l2 : K.lookup f2 = some ⟨oc2, od2, .func (PySem.W.fnOf "made_web" "made_web" (defArgs sMade) (defBody sMade) (defScope sMade) .none kV2 dc2 pm2 an2 cd2 ct2), sl2⟩) (c2 : PySem.W.codeIn K cd2 "made_web" = true) (k2 : PySem.W.keepIn K (.ref f2) = true)
    {f3 : Addr} {od3 an3 : Option Addr} {sl3 : Array (Option Value)} {oc3 kV3 dc3 pm3 cd3 ct3 : Value}
    (a3 : PySem.W.nsIn K mainGlobals "is_pair_of_points" = some (some (.ref f3))) (l3 : K.lookup f3 = some ⟨oc3, od3, .func (PySem.W.fnOf "is_pair_of_points" "is_pair_of_points" (defArgs sPair) (defBody sPair) (defScope sPair) .none kV3 dc3 pm3 an3 cd3 ct3), sl3⟩) (c3 : PySem.W.codeIn K cd3 "is_pair_of_points" = true) (k3 : PySem.W.keepIn K (.ref f3) = true)
    {f4 : Addr} {od4 an4 : Option Addr} {sl4 : Array (Option Value)} {oc4 kV4 dc4 pm4 cd4 ct4 : Value}
    (a4 : PySem.W.nsIn K mainGlobals "lesser_first" = some (some (.ref f4))) (l4 : K.lookup f4 = some ⟨oc4, od4, .func (PySem.W.fnOf "lesser_first" "lesser_first" (defArgs sLesser) (defBody sLesser) (defScope sLesser) .none kV4 dc4 pm4 an4 cd4 ct4), sl4⟩) (c4 : PySem.W.codeIn K cd4 "lesser_first" = true) (k4 : PySem.W.keepIn K (.ref f4) = true)
    {f5 : Addr} {od5 an5 : Option Addr} {sl5 : Array (Option Value)} {oc5 kV5 dc5 pm5 cd5 ct5 : Value}
    (a5 : PySem.W.nsIn K mainGlobals "whole_pick" = some (some (.ref f5))) (l5 : K.lookup f5 = some ⟨oc5, od5, .func (PySem.W.fnOf "whole_pick" "whole_pick" (defArgs sWhole) (defBody sWhole) (defScope sWhole) .none kV5 dc5 pm5 an5 cd5 ct5), sl5⟩) (c5 : PySem.W.codeIn K cd5 "whole_pick" = true) (k5 : PySem.W.keepIn K (.ref f5) = true)
    {f6 : Addr} {od6 an6 : Option Addr} {sl6 : Array (Option Value)} {oc6 kV6 dc6 pm6 cd6 ct6 : Value}
    (a6 : PySem.W.nsIn K mainGlobals "all_pointings" = some (some (.ref f6))) (l6 : K.lookup f6 = some ⟨oc6, od6, .func (PySem.W.fnOf "all_pointings" "all_pointings" (defArgs sPtg) (defBody sPtg) (defScope sPtg) .none kV6 dc6 pm6 an6 cd6 ct6), sl6⟩) (c6 : PySem.W.codeIn K cd6 "all_pointings" = true) (k6 : PySem.W.keepIn K (.ref f6) = true)
    {f7 : Addr} {od7 an7 : Option Addr} {sl7 : Array (Option Value)} {oc7 kV7 dc7 pm7 cd7 ct7 : Value}
    (a7 : PySem.W.nsIn K mainGlobals "leads_of" = some (some (.ref f7))) (l7 : K.lookup f7 = some ⟨oc7, od7, .func (PySem.W.fnOf "leads_of" "leads_of" (defArgs sLeadsOf) (defBody sLeadsOf) (defScope sLeadsOf) .none kV7 dc7 pm7 an7 cd7 ct7), sl7⟩) (c7 : PySem.W.codeIn K cd7 "leads_of" = true) (k7 : PySem.W.keepIn K (.ref f7) = true)
    {f8 : Addr} {od8 an8 : Option Addr} {sl8 : Array (Option Value)} {oc8 kV8 dc8 pm8 cd8 ct8 : Value}
    (a8 : PySem.W.nsIn K mainGlobals "score_of" = some (some (.ref f8))) (l8 : K.lookup f8 = some ⟨oc8, od8, .func (PySem.W.fnOf "score_of" "score_of" (defArgs sScoreOf) (defBody sScoreOf) (defScope sScoreOf) .none kV8 dc8 pm8 an8 cd8 ct8), sl8⟩) (c8 : PySem.W.codeIn K cd8 "score_of" = true) (k8 : PySem.W.keepIn K (.ref f8) = true)
    {f9 : Addr} {od9 an9 : Option Addr} {sl9 : Array (Option Value)} {oc9 kV9 dc9 pm9 cd9 ct9 : Value}
    (a9 : PySem.W.nsIn K mainGlobals "all_scores" = some (some (.ref f9))) (l9 : K.lookup f9 = some ⟨oc9, od9, .func (PySem.W.fnOf "all_scores" "all_scores" (defArgs sAllSc) (defBody sAllSc) (defScope sAllSc) .none kV9 dc9 pm9 an9 cd9 ct9), sl9⟩) (c9 : PySem.W.codeIn K cd9 "all_scores" = true) (k9 : PySem.W.keepIn K (.ref f9) = true)
    {f10 : Addr} {od10 an10 : Option Addr} {sl10 : Array (Option Value)} {oc10 kV10 dc10 pm10 cd10 ct10 : Value}
    (a10 : PySem.W.nsIn K mainGlobals "pointing_of" = some (some (.ref f10))) (l10 : K.lookup f10 = some ⟨oc10, od10, .func (PySem.W.fnOf "pointing_of" "pointing_of" (defArgs sPtgOf) (defBody sPtgOf) (defScope sPtgOf) .none kV10 dc10 pm10 an10 cd10 ct10), sl10⟩) (c10 : PySem.W.codeIn K cd10 "pointing_of" = true) (k10 : PySem.W.keepIn K (.ref f10) = true)
    {f11 : Addr} {od11 an11 : Option Addr} {sl11 : Array (Option Value)} {oc11 kV11 dc11 pm11 cd11 ct11 : Value}
    (a11 : PySem.W.nsIn K mainGlobals "_law_at" = some (some (.ref f11))) (l11 : K.lookup f11 = some ⟨oc11, od11, .func (PySem.W.fnOf "_law_at" "_law_at" (defArgs sAt) (defBody sAt) (defScope sAt) .none kV11 dc11 pm11 an11 cd11 ct11), sl11⟩) (c11 : PySem.W.codeIn K cd11 "_law_at" = true) (k11 : PySem.W.keepIn K (.ref f11) = true)
    {f12 : Addr} {od12 an12 : Option Addr} {sl12 : Array (Option Value)} {oc12 kV12 dc12 pm12 cd12 ct12 : Value}
    (a12 : PySem.W.nsIn K mainGlobals "_law_points" = some (some (.ref f12))) (l12 : K.lookup f12 = some ⟨oc12, od12, .func (PySem.W.fnOf "_law_points" "_law_points" (defArgs sPts) (defBody sPts) (defScope sPts) .none kV12 dc12 pm12 an12 cd12 ct12), sl12⟩) (c12 : PySem.W.codeIn K cd12 "_law_points" = true) (k12 : PySem.W.keepIn K (.ref f12) = true)
    {f13 : Addr} {od13 an13 : Option Addr} {sl13 : Array (Option Value)} {oc13 kV13 dc13 pm13 cd13 ct13 : Value}
    (a13 : PySem.W.nsIn K mainGlobals "_law_tie" = some (some (.ref f13))) (l13 : K.lookup f13 = some ⟨oc13, od13, .func (PySem.W.fnOf "_law_tie" "_law_tie" (defArgs sTie) (defBody sTie) (defScope sTie) .none kV13 dc13 pm13 an13 cd13 ct13), sl13⟩) (c13 : PySem.W.codeIn K cd13 "_law_tie" = true) (k13 : PySem.W.keepIn K (.ref f13) = true)
    {f14 : Addr} {od14 an14 : Option Addr} {sl14 : Array (Option Value)} {oc14 kV14 dc14 pm14 cd14 ct14 : Value}
    (a14 : PySem.W.nsIn K mainGlobals "_law_drawn_web" = some (some (.ref f14))) (l14 : K.lookup f14 = some ⟨oc14, od14, .func (PySem.W.fnOf "_law_drawn_web" "_law_drawn_web" (defArgs sDrawn) (defBody sDrawn) (defScope sDrawn) .none kV14 dc14 pm14 an14 cd14 ct14), sl14⟩) (c14 : PySem.W.codeIn K cd14 "_law_drawn_web" = true) (k14 : PySem.W.keepIn K (.ref f14) = true)
    {f15 : Addr} {od15 an15 : Option Addr} {sl15 : Array (Option Value)} {oc15 kV15 dc15 pm15 cd15 ct15 : Value}
    (a15 : PySem.W.nsIn K mainGlobals "_law_leads" = some (some (.ref f15))) (l15 : K.lookup f15 = some ⟨oc15, od15, .func (PySem.W.fnOf "_law_leads" "_law_leads" (defArgs sLLeads) (defBody sLLeads) (defScope sLLeads) .none kV15 dc15 pm15 an15 cd15 ct15), sl15⟩) (c15 : PySem.W.codeIn K cd15 "_law_leads" = true) (k15 : PySem.W.keepIn K (.ref f15) = true)
    {f16 : Addr} {od16 an16 : Option Addr} {sl16 : Array (Option Value)} {oc16 kV16 dc16 pm16 cd16 ct16 : Value}
    (a16 : PySem.W.nsIn K mainGlobals "_law_pointings" = some (some (.ref f16))) (l16 : K.lookup f16 = some ⟨oc16, od16, .func (PySem.W.fnOf "_law_pointings" "_law_pointings" (defArgs sLPtg) (defBody sLPtg) (defScope sLPtg) .none kV16 dc16 pm16 an16 cd16 ct16), sl16⟩) (c16 : PySem.W.codeIn K cd16 "_law_pointings" = true) (k16 : PySem.W.keepIn K (.ref f16) = true)
    {f17 : Addr} {od17 an17 : Option Addr} {sl17 : Array (Option Value)} {oc17 kV17 dc17 pm17 cd17 ct17 : Value}
    (a17 : PySem.W.nsIn K mainGlobals "_law_whole" = some (some (.ref f17))) (l17 : K.lookup f17 = some ⟨oc17, od17, .func (PySem.W.fnOf "_law_whole" "_law_whole" (defArgs sLWh) (defBody sLWh) (defScope sLWh) .none kV17 dc17 pm17 an17 cd17 ct17), sl17⟩) (c17 : PySem.W.codeIn K cd17 "_law_whole" = true) (k17 : PySem.W.keepIn K (.ref f17) = true)
    {f18 : Addr} {od18 an18 : Option Addr} {sl18 : Array (Option Value)} {oc18 kV18 dc18 pm18 cd18 ct18 : Value}
    (a18 : PySem.W.nsIn K mainGlobals "_law_score" = some (some (.ref f18))) (l18 : K.lookup f18 = some ⟨oc18, od18, .func (PySem.W.fnOf "_law_score" "_law_score" (defArgs sLScore) (defBody sLScore) (defScope sLScore) .none kV18 dc18 pm18 an18 cd18 ct18), sl18⟩) (c18 : PySem.W.codeIn K cd18 "_law_score" = true) (k18 : PySem.W.keepIn K (.ref f18) = true)
    {f19 : Addr} {od19 an19 : Option Addr} {sl19 : Array (Option Value)} {oc19 kV19 dc19 pm19 cd19 ct19 : Value}
    (a19 : PySem.W.nsIn K mainGlobals "_law_asked" = some (some (.ref f19))) (l19 : K.lookup f19 = some ⟨oc19, od19, .func (PySem.W.fnOf "_law_asked" "_law_asked" (defArgs sAsked) (defBody sAsked) (defScope sAsked) .none kV19 dc19 pm19 an19 cd19 ct19), sl19⟩) (c19 : PySem.W.codeIn K cd19 "_law_asked" = true) (k19 : PySem.W.keepIn K (.ref f19) = true)
    {f20 : Addr} {od20 an20 : Option Addr} {sl20 : Array (Option Value)} {oc20 kV20 dc20 pm20 cd20 ct20 : Value}
    (a20 : PySem.W.nsIn K mainGlobals "_law_pointing_right" = some (some (.ref f20))) (l20 : K.lookup f20 = some ⟨oc20, od20, .func (PySem.W.fnOf "_law_pointing_right" "_law_pointing_right" (defArgs sRight) (defBody sRight) (defScope sRight) .none kV20 dc20 pm20 an20 cd20 ct20), sl20⟩) (c20 : PySem.W.codeIn K cd20 "_law_pointing_right" = true) (k20 : PySem.W.keepIn K (.ref f20) = true)
    {f21 : Addr} {od21 an21 : Option Addr} {sl21 : Array (Option Value)} {oc21 kV21 dc21 pm21 cd21 ct21 : Value}
    (a21 : PySem.W.nsIn K mainGlobals "law" = some (some (.ref f21))) (l21 : K.lookup f21 = some ⟨oc21, od21, .func (PySem.W.fnOf "law" "law" (defArgs sLaw) (defBody sLaw) (defScope sLaw) .none kV21 dc21 pm21 an21 cd21 ct21), sl21⟩) (c21 : PySem.W.codeIn K cd21 "law" = true) (k21 : PySem.W.keepIn K (.ref f21) = true)
    (z0 : PySem.W.nsIn K mainGlobals "isinstance" = some none)
    (z1 : PySem.W.nsIn K mainGlobals "int" = some none)
    (z2 : PySem.W.nsIn K mainGlobals "bool" = some none)
    (z3 : PySem.W.nsIn K mainGlobals "len" = some none)
    (z4 : PySem.W.nsIn K mainGlobals "enumerate" = some none)
    (z5 : PySem.W.nsIn K mainGlobals "tuple" = some none)
    (z6 : PySem.W.nsIn K mainGlobals "all" = some none)
    (z7 : PySem.W.nsIn K mainGlobals "list" = some none)
    (z8 : PySem.W.nsIn K mainGlobals "zip" = some none)
    (z9 : PySem.W.nsIn K mainGlobals "min" = some none)
    (z10 : PySem.W.nsIn K mainGlobals "max" = some none)
    (z11 : PySem.W.nsIn K mainGlobals "range" = some none)
    (z12 : PySem.W.nsIn K mainGlobals "set" = some none)
    (z13 : PySem.W.nsIn K mainGlobals "sorted" = some none)
    {ti0 : Tok} (y0 : PySem.W.nsIn K mainGlobals "MOST_POINTS" = some (some (.int 9 ti0)))
    {ti1 : Tok} (y1 : PySem.W.nsIn K mainGlobals "MOST_TIES" = some (some (.int 8 ti1)))
    : ∃ fd : FuncData, (∀ (s : Shared) (v : Value), BindsTo s fd ⟨[v], []⟩ [("_law_script", v)]) /\ ∀ base : Heap, K.In base -> base.Ns mainGlobals mg -> FnOk l.prog w K mg base CX0 5 fa fd ["_law_script"] (spLaw K) := by
  have e := hfa.symm.trans (PySem.W.mg_of X G a21)
  cases e
  have S0 : Src K mg "is_whole" sIsWhole ["thing"] := src_mk X G a0 l0 c0 k0 fun _ _ _ _ _ _ us hl => match us, hl with | [_], _ => rfl
  have S1 : Src K mg "is_whole_within" sWithin ["thing", "least", "greatest"] := src_mk X G a1 l1 c1 k1 fun _ _ _ _ _ _ us hl => match us, hl with | [_, _, _], _ => rfl
  have S2 : Src K mg "made_web" sMade ["points", "ties"] := src_mk X G a2 l2 c2 k2 fun _ _ _ _ _ _ us hl => match us, hl with | [_, _], _ => rfl
  have S3 : Src K mg "is_pair_of_points" sPair ["thing", "points"] := src_mk X G a3 l3 c3 k3 fun _ _ _ _ _ _ us hl => match us, hl with | [_, _], _ => rfl
  have S4 : Src K mg "lesser_first" sLesser ["a", "b"] := src_mk X G a4 l4 c4 k4 fun _ _ _ _ _ _ us hl => match us, hl with | [_, _], _ => rfl
  have S5 : Src K mg "whole_pick" sWhole ["web"] := src_mk X G a5 l5 c5 k5 fun _ _ _ _ _ _ us hl => match us, hl with | [_], _ => rfl
  have S6 : Src K mg "all_pointings" sPtg ["web"] := src_mk X G a6 l6 c6 k6 fun _ _ _ _ _ _ us hl => match us, hl with | [_], _ => rfl
  have S7 : Src K mg "leads_of" sLeadsOf ["web", "pointing"] := src_mk X G a7 l7 c7 k7 fun _ _ _ _ _ _ us hl => match us, hl with | [_, _], _ => rfl
  have S8 : Src K mg "score_of" sScoreOf ["web", "pointing"] := src_mk X G a8 l8 c8 k8 fun _ _ _ _ _ _ us hl => match us, hl with | [_, _], _ => rfl
  have S9 : Src K mg "all_scores" sAllSc ["web"] := src_mk X G a9 l9 c9 k9 fun _ _ _ _ _ _ us hl => match us, hl with | [_], _ => rfl
  have S10 : Src K mg "pointing_of" sPtgOf ["web", "score"] := src_mk X G a10 l10 c10 k10 fun _ _ _ _ _ _ us hl => match us, hl with | [_, _], _ => rfl
  have S11 : Src K mg "_law_at" sAt ["_law_script", "_law_k"] := src_mk X G a11 l11 c11 k11 fun _ _ _ _ _ _ us hl => match us, hl with | [_, _], _ => rfl
  have S12 : Src K mg "_law_points" sPts ["_law_cell"] := src_mk X G a12 l12 c12 k12 fun _ _ _ _ _ _ us hl => match us, hl with | [_], _ => rfl
  have S13 : Src K mg "_law_tie" sTie ["_law_cell", "_law_points_here"] := src_mk X G a13 l13 c13 k13 fun _ _ _ _ _ _ us hl => match us, hl with | [_, _], _ => rfl
  have S14 : Src K mg "_law_drawn_web" sDrawn ["_law_script"] := src_mk X G a14 l14 c14 k14 fun _ _ _ _ _ _ us hl => match us, hl with | [_], _ => rfl
  have S15 : Src K mg "_law_leads" sLLeads ["_law_ties", "_law_pointing"] := src_mk X G a15 l15 c15 k15 fun _ _ _ _ _ _ us hl => match us, hl with | [_, _], _ => rfl
  have S16 : Src K mg "_law_pointings" sLPtg ["_law_many"] := src_mk X G a16 l16 c16 k16 fun _ _ _ _ _ _ us hl => match us, hl with | [_], _ => rfl
  have S17 : Src K mg "_law_whole" sLWh ["_law_found"] := src_mk X G a17 l17 c17 k17 fun _ _ _ _ _ _ us hl => match us, hl with | [_], _ => rfl
  have S18 : Src K mg "_law_score" sLScore ["_law_points_here", "_law_leads_here"] := src_mk X G a18 l18 c18 k18 fun _ _ _ _ _ _ us hl => match us, hl with | [_, _], _ => rfl
  have S19 : Src K mg "_law_asked" sAsked ["_law_cell", "_law_due", "_law_points_here"] := src_mk X G a19 l19 c19 k19 fun _ _ _ _ _ _ us hl => match us, hl with | [_, _, _], _ => rfl
  have S20 : Src K mg "_law_pointing_right" sRight ["_law_web", "_law_score_here", "_law_due"] := src_mk X G a20 l20 c20 k20 fun _ _ _ _ _ _ us hl => match us, hl with | [_, _, _], _ => rfl
  have T : Txt K mg := ⟨PySem.W.mg_none_of X G z0, PySem.W.mg_none_of X G z1, PySem.W.mg_none_of X G z2, PySem.W.mg_none_of X G z3, PySem.W.mg_none_of X G z4, PySem.W.mg_none_of X G z5, PySem.W.mg_none_of X G z6, PySem.W.mg_none_of X G z7, PySem.W.mg_none_of X G z8, PySem.W.mg_none_of X G z9, PySem.W.mg_none_of X G z10, PySem.W.mg_none_of X G z11, ⟨_, PySem.W.mg_of X G y0⟩, ⟨_, PySem.W.mg_of X G y1⟩⟩
  refine ⟨PySem.W.fnOf "law" "law" (defArgs sLaw) (defBody sLaw) (defScope sLaw) .none kV21 dc21 pm21 an21 cd21 ct21, fun s v => .of_eq rfl, fun base _ _ => ?_⟩
  have D0 : Def l.prog w K mg base 1 _ _ _ := d_whole T S0
  have D1 : Def l.prog w K mg base 2 _ _ _ := d_within T S1 D0
  have D3 : Def l.prog w K mg base 3 _ _ _ := d_pair T S3 D1
  have D4 : Def l.prog w K mg base 1 _ _ _ := d_lesser S4
  have D2 : Def l.prog w K mg base 4 _ _ _ := d_made T S2 D1 D3 D4
  have D5 : Def l.prog w K mg base 1 _ _ _ := d_wp T S5
  have D6 : Def l.prog w K mg base 2 _ _ _ := d_ptg T S6 D5
  have D7 : Def l.prog w K mg base 1 _ _ _ := d_leads T S7
  have D8 : Def l.prog w K mg base 2 _ _ _ := d_scoreof T S8 D7
  have D9 : Def l.prog w K mg base 3 _ _ _ := d_allsc (PySem.W.mg_none_of X G z12) (PySem.W.mg_none_of X G z13) S9 D6 D8
  have D10 : Def l.prog w K mg base 3 _ _ _ := d_ptgof S10 D6 D8
  have D11 : Def l.prog w K mg base 1 _ _ _ := d_at T S11
  have D12 : Def l.prog w K mg base 1 _ _ _ := d_pts S12
  have D13 : Def l.prog w K mg base 1 _ _ _ := d_tieD T S13
  have D14 : Def l.prog w K mg base 2 _ _ _ := d_drawn T S14 D11 D12 D13
  have D15 : Def l.prog w K mg base 1 _ _ _ := d_lleads T S15
  have D16 : Def l.prog w K mg base 1 _ _ _ := d_lptg T S16
  have D17 : Def l.prog w K mg base 1 _ _ _ := d_lwh T S17
  have D18 : Def l.prog w K mg base 1 _ _ _ := d_lscore T S18
  have D19 : Def l.prog w K mg base 1 _ _ _ := d_asked T S19
  have D20 : Def l.prog w K mg base 4 _ _ _ := d_right T S20 D10 D17 D15 D18
  exact ok_law (fun_mk (st := sLaw) l21 c21 k21) T (PySem.W.mg_none_of X G z12) (PySem.W.mg_none_of X G z13) D11 D14 D2 D16 D15 D18 D9 D17 D19 D20
theorem walk {l : PySem.W.OpenLaw} {q : Program} {loose : List Str} {XP : (Str -> Option Value) -> Heap -> Prop} {YP : World -> Heap -> Prop} {d : DefRec} {K : Params -> PySem.W.Frag} (hn : l.most = some 63) (hdf : d.params.defaults = [])
    (hY : ∀ (w : World) (h : Heap), YP w h -> (K w.params).In h)
    (F : ∀ (w : World) (mg : Str -> Option Value) (fa : Addr) (h : Heap), (K w.params).In h -> h.Ns mainGlobals mg -> mg d.name = some (.ref fa) ->
      ∃ fd : FuncData, (∀ (s : Shared) (u : Value), BindsTo s fd ⟨[u], []⟩ [("_law_script", u)]) /\ ∀ base : Heap, (K w.params).In base -> base.Ns mainGlobals mg -> FnOk l.prog w (K w.params) mg base CX0 5 fa fd ["_law_script"] (spLaw (K w.params))) :
    PySem.W.WalkO q loose XP YP l.row.toRowW d [] (fun f vs => PySem.call f vs) :=
  L2.walk_of (n := 63) (k := 5) (x := "_law_script") (CX := fun _ => CX0) (sp := fun w => spLaw (K w.params)) hn (by decide) hdf ⟨rfl, by decide, by decide⟩ hY F (fun _ _ a ns hl _ hS => ⟨a, ns, rfl, hS, hl, fun _ => rfl⟩) fun _ _ _ _ _ z => z
end My
open PySem PySem.W PyProof.Rows
set_option maxRecDepth 100000 in
set_option maxHeartbeats 0 in
theorem PySem.Challenge.cw_manycounts_k66_scores_holds : PySem.Challenge.rw_manycounts_k66_scores.Holds := by
  w_on; o_law; k_head; (case hw => w_witness2)
  k_fill
  refine My.walk (l := PySem.Challenge.rw_manycounts_k66_scores) rfl rfl (fun w h Y => PySem.W.kIn_of Y) ?F
  case F =>
    intro w mg fa h KX G hmg
    refine' My.all_mk KX G hmg ?a0 ?l0 ?c0 ?k0 ?a1 ?l1 ?c1 ?k1 ?a2 ?l2 ?c2 ?k2 ?a3 ?l3 ?c3 ?k3 ?a4 ?l4 ?c4 ?k4 ?a5 ?l5 ?c5 ?k5 ?a6 ?l6 ?c6 ?k6 ?a7 ?l7 ?c7 ?k7 ?a8 ?l8 ?c8 ?k8 ?a9 ?l9 ?c9 ?k9 ?a10 ?l10 ?c10 ?k10 ?a11 ?l11 ?c11 ?k11 ?a12 ?l12 ?c12 ?k12 ?a13 ?l13 ?c13 ?k13 ?a14 ?l14 ?c14 ?k14 ?a15 ?l15 ?c15 ?k15 ?a16 ?l16 ?c16 ?k16 ?a17 ?l17 ?c17 ?k17 ?a18 ?l18 ?c18 ?k18 ?a19 ?l19 ?c19 ?k19 ?a20 ?l20 ?c20 ?k20 ?a21 ?l21 ?c21 ?k21 ?z0 ?z1 ?z2 ?z3 ?z4 ?z5 ?z6 ?z7 ?z8 ?z9 ?z10 ?z11 ?z12 ?z13 ?y0 ?y1
    (case a0 => k_is); (case l0 => k_is); (case c0 => k_is); (case k0 => k_is)
    (case a1 => k_is); (case l1 => k_is); (case c1 => k_is); (case k1 => k_is)
    (case a2 => k_is); (case l2 => k_is); (case c2 => k_is); (case k2 => k_is)
    (case a3 => k_is); (case l3 => k_is); (case c3 => k_is); (case k3 => k_is)
    (case a4 => k_is); (case l4 => k_is); (case c4 => k_is); (case k4 => k_is)
    (case a5 => k_is); (case l5 => k_is); (case c5 => k_is); (case k5 => k_is)
    (case a6 => k_is); (case l6 => k_is); (case c6 => k_is); (case k6 => k_is)
    (case a7 => k_is); (case l7 => k_is); (case c7 => k_is); (case k7 => k_is)
    (case a8 => k_is); (case l8 => k_is); (case c8 => k_is); (case k8 => k_is)
    (case a9 => k_is); (case l9 => k_is); (case c9 => k_is); (case k9 => k_is)
    (case a10 => k_is); (case l10 => k_is); (case c10 => k_is); (case k10 => k_is)
    (case a11 => k_is); (case l11 => k_is); (case c11 => k_is); (case k11 => k_is)
    (case a12 => k_is); (case l12 => k_is); (case c12 => k_is); (case k12 => k_is)
    (case a13 => k_is); (case l13 => k_is); (case c13 => k_is); (case k13 => k_is)
    (case a14 => k_is); (case l14 => k_is); (case c14 => k_is); (case k14 => k_is)
    (case a15 => k_is); (case l15 => k_is); (case c15 => k_is); (case k15 => k_is)
    (case a16 => k_is); (case l16 => k_is); (case c16 => k_is); (case k16 => k_is)
    (case a17 => k_is); (case l17 => k_is); (case c17 => k_is); (case k17 => k_is)
    (case a18 => k_is); (case l18 => k_is); (case c18 => k_is); (case k18 => k_is)
    (case a19 => k_is); (case l19 => k_is); (case c19 => k_is); (case k19 => k_is)
    (case a20 => k_is); (case l20 => k_is); (case c20 => k_is); (case k20 => k_is)
    (case a21 => k_is); (case l21 => k_is); (case c21 => k_is); (case k21 => k_is)
    (case z0 => k_is); (case z1 => k_is); (case z2 => k_is); (case z3 => k_is)
    (case z4 => k_is); (case z5 => k_is); (case z6 => k_is); (case z7 => k_is)
    (case z8 => k_is); (case z9 => k_is); (case z10 => k_is); (case z11 => k_is)
    (case z12 => k_is); (case z13 => k_is); (case y0 => k_is); (case y1 => k_is)
