import PyProof.Rows.All
import Wide.All
import OpenK.AllK
import Wide.FinOn
import Lean
import PyProof.EqAt
import PyProof.EqKinds
import PyProof.TupleCall
import KE.KIsAll
import PyProof.DictItems
import KE.KPairComp
import KE.KSortTup
import KE.IntBitsLaws
import KE.KRevIter
import PySem.Challenge.RW_manycounts_k54_leaves_are_trees
set_option Elab.async false
set_option linter.all false
set_option maxRecDepth 100000
set_option maxHeartbeats 4000000
namespace L2
open PySem PySem.Spec PyProof.Rows
abbrev Key := Sum Int Str
def keyIs : Key -> Value -> Bool
  | .inl k, v => Value.isInt k v
  | .inr x, v => Value.isStrOf x v
def keyH (w : World) : Key -> Int
  | .inl k => hashInt k
  | .inr x => hashStr w x
theorem keyIs_shape : ∀ {k : Key} {v : Value}, keyIs k v = true -> (∃ i t, k = Sum.inl i /\ v = Value.int i t) \/ (∃ x t, k = Sum.inr x /\ v = Value.str x t)
  | .inl i, v, h => by
    obtain ⟨t, e⟩ := Value.isInt_shape (k := i) (v := v) h
    exact .inl ⟨i, t, rfl, e⟩
  | .inr x, v, h => by
    obtain ⟨t, e⟩ := Value.isStrOf_shape (x := x) (v := v) h
    exact .inr ⟨x, t, rfl, e⟩
theorem key_ll (a b : Int) : decide ((Sum.inl a : Key) = Sum.inl b) = (a == b) := by
  by_cases e : a = b
  · subst e; simp
  · have h : ¬ (Sum.inl a : Key) = Sum.inl b := fun q => e (Sum.inl.inj q)
    rw [decide_eq_false h]
    exact (beq_eq_false_iff_ne.mpr e).symm
theorem key_rr (a b : Str) : decide ((Sum.inr a : Key) = Sum.inr b) = decide (a = b) := by
  by_cases e : a = b
  · subst e; simp
  · have h : ¬ (Sum.inr a : Key) = Sum.inr b := fun q => e (Sum.inr.inj q)
    rw [decide_eq_false h, decide_eq_false e]
theorem key_lr (a : Int) (b : Str) : decide ((Sum.inl a : Key) = Sum.inr b) = false := decide_eq_false (fun q => nomatch q)
theorem key_rl (a : Str) (b : Int) : decide ((Sum.inr a : Key) = Sum.inl b) = false := decide_eq_false (fun q => nomatch q)
def mixKind (prog : Program) (w : World) : PySem.KeyKind prog w Key where
  is := keyIs
  hash := keyH w
  inj := fun v a b ha hb => by
    rcases keyIs_shape ha with ⟨i, t, rfl, rfl⟩ | ⟨x, t, rfl, rfl⟩
    · rcases keyIs_shape hb with ⟨j, u, rfl, e⟩ | ⟨y, u, rfl, e⟩
      · injection e with e1 _; rw [e1]
      · exact nomatch e
    · rcases keyIs_shape hb with ⟨j, u, rfl, e⟩ | ⟨y, u, rfl, e⟩
      · exact nomatch e
      · injection e with e1 _; rw [e1]
  byValue := fun k v h => by
    rcases keyIs_shape h with ⟨i, t, rfl, rfl⟩ | ⟨x, t, rfl, rfl⟩ <;> rfl
  pyHash := fun hv h => by
    rcases keyIs_shape hv with ⟨i, t, rfl, rfl⟩ | ⟨x, t, rfl, rfl⟩
    · exact wpAny_pyHash_int h
    · exact wpAny_pyHash_str h
  eqBool := fun hu hv h => by
    rcases keyIs_shape hu with ⟨i, t, rfl, rfl⟩ | ⟨x, t, rfl, rfl⟩
    · rcases keyIs_shape hv with ⟨j, u, rfl, rfl⟩ | ⟨y, u, rfl, rfl⟩
      · rw [key_ll] at h; exact wpAny_eqBool_int h
      · rw [key_lr] at h; exact SeqAt.EqAt.int_str i t y u _ _ _ _ h
    · rcases keyIs_shape hv with ⟨j, u, rfl, rfl⟩ | ⟨y, u, rfl, rfl⟩
      · rw [key_rl] at h; exact SeqAt.EqAt.str_int x t j u _ _ _ _ h
      · rw [key_rr] at h; exact wpAny_eqBool_str h
  «strs» := fun k x t v h => by
    rcases keyIs_shape h with ⟨i, u, rfl, e⟩ | ⟨y, u, rfl, e⟩
    · exact nomatch e
    · injection e with e1 _
      subst e1
      cases v <;> rfl
inductive V where
  | non | bl (b : Bool) | int (i : Int) | str (x : Str) | byt (b : Array UInt8) | flt (b : UInt64) | ref (a : Addr) | ty (n : String)
  deriving DecidableEq
def RelV : V -> Value -> Prop
  | .non, u => u = Value.none
  | .bl b, u => u = Value.bool b
  | .int i, u => ∃ t, u = Value.int i t
  | .str x, u => ∃ t, u = Value.str x t
  | .byt b, u => ∃ t, u = Value.bytes b t
  | .flt b, u => ∃ t, u = Value.float b t
  | .ref a, u => u = Value.ref a
  | .ty n, u => u = Value.type n
abbrev Vals : List V -> List Value -> Prop := Paired RelV
theorem Vals.length {xs : List V} {us : List Value} (r : Vals xs us) : xs.length = us.length := Paired.length r
theorem Vals.get : ∀ {xs : List V} {us : List Value} {i : Nat} {x : V}, Vals xs us -> xs[i]? = some x -> ∃ u, us[i]? = some u /\ RelV x u
  | _, _, _, _, .nil, e => by simp at e
  | _, _, 0, _, .cons r _, e => by simp at e; subst e; exact ⟨_, rfl, r⟩
  | _, _, i + 1, x, .cons _ t, e => by
    obtain ⟨u, h1, h2⟩ := Vals.get (i := i) (x := x) t (by simpa using e)
    exact ⟨u, by simpa using h1, h2⟩
theorem Vals.append : ∀ {xs ys : List V} {us ws : List Value}, Vals xs us -> Vals ys ws -> Vals (xs ++ ys) (us ++ ws)
  | _, _, _, _, .nil, s => s
  | _, _, _, _, .cons r t, s => .cons r (Vals.append t s)
theorem Vals.take : ∀ {xs : List V} {us : List Value} (n : Nat), Vals xs us -> Vals (xs.take n) (us.take n)
  | _, _, 0, _ => .nil
  | _, _, _ + 1, .nil => .nil
  | _, _, n + 1, .cons r t => .cons r (Vals.take n t)
theorem Vals.drop : ∀ {xs : List V} {us : List Value} (n : Nat), Vals xs us -> Vals (xs.drop n) (us.drop n)
  | _, _, 0, r => r
  | _, _, _ + 1, .nil => .nil
  | _, _, n + 1, .cons _ t => Vals.drop n t
def RelO : Option V -> Option Value -> Prop
  | some v, some u => RelV v u
  | none, none => True
  | _, _ => False
def KV {κ : Type} : List (κ × V) -> List (κ × Value) -> Prop := Paired fun (p : κ × V) (q : κ × Value) => p.1 = q.1 /\ RelV p.2 q.2
def kV : Key -> V
  | .inl i => .int i
  | .inr x => .str x
inductive HO where
    | lst (xs : List V)
    | tup (xs : List V)
    | dK (kvs : List (Key × V)) | dT (kvs : List (List Key × V))
    | set (S : Int -> Bool) (n : Nat)
    | ins (C dx : Addr) (fs : List (Str × V))
    | own (x : Addr)
    | xd (fs : List (Str × V))
    | met (f x : Addr)
    | rng (lo hi : Int)
    | frz (o : Obj) (u : HO)
    | tbl (ps : Array Value)
    | ext (φ : Heap -> Prop)
abbrev Hp := Addr -> Option HO
def upd (H : Hp) (a : Addr) (o : HO) : Hp := fun b => if b = a then some o else H b
theorem upd_same {H : Hp} {a : Addr} {o : HO} : upd H a o a = some o := by unfold upd; rw [if_pos rfl]
theorem upd_ne {H : Hp} {a b : Addr} {o : HO} (h : b ≠ a) : upd H a o b = H b := by unfold upd; rw [if_neg h]
theorem upd_upd {H : Hp} {a : Addr} {o u : HO} : upd (upd H a o) a u = upd H a u := by
  funext b; unfold upd; split <;> rfl
theorem ne_of {H : Hp} {a b : Addr} {o u : HO} (h : H a = some o) (h' : H b = some u) (d : o ≠ u) : a ≠ b := by
  intro e; subst e; rw [h] at h'; exact d (Option.some.inj h')
theorem ne_of_none {H : Hp} {a b : Addr} {o : HO} (h : H a = some o) (h' : H b = none) : a ≠ b := by
  intro e; subst e; rw [h] at h'; cases h'
section
variable (P : Program) (w : World)
def ObjOk (H : Hp) (h : Heap) (a : Addr) : HO -> Prop
  | .lst xs => xs.length <= sizeLine /\ ∃ (its : List Value) (n : Nat), Vals xs its /\ h.get? a = some { cls := .type "list", data := .seq its.toArray n }
  | .tup xs => xs.length <= sizeLine /\ ∃ its : List Value, Vals xs its /\ IsTup h a its.toArray
  | .dK kvs => kvs.length <= sizeLine /\ (a == sysModules) = false /\ ∃ vs, KV kvs vs /\ h.DictOf (mixKind P w) a vs
  | .dT kvs => kvs.length <= sizeLine /\ (a == sysModules) = false /\ ∃ xs : List (List Key × Addr × Value),
      Paired (fun (p : List Key × V) (q : List Key × Addr × Value) => p.1 = q.1 /\ H q.2.1 = some (.tup (p.1.map kV)) /\ RelV p.2 q.2.2) kvs xs /\
      ∃ o es ep, h.get? a = some o /\ o.ExactDict /\ o.data = .dict es ep /\ es.toList = xs.map (entryOfKey (tupleKind (mixKind P w))) /\ (xs.map (·.1)).Nodup
  | .set S n => h.SetOf (intKind P w) a S n
  | .ins C dx fs => H dx = some (.own a) /\ fs.length <= 1000 /\ dx ≠ a /\ h.get? a = some (PySem.W.instObj C dx) /\
      ∃ mA, h.Ns1 dx mA /\ (∀ f, RelO (fs.lookup f) (mA f)) /\ PySem.Within mA (fs.map (·.1))
  | .own _ => ∃ o, h.get? a = some o
  | .xd fs => ∃ mA, h.Ns1 a mA /\ ∀ f, RelO (fs.lookup f) (mA f)
  | .rng lo hi => ∃ t u v, h.get? a = some { cls := .type "range", data := .fields #[.int lo t, .int hi u, .int 1 v] }
  | .frz o u => h.get? a = some o /\ ObjOk H h a u
  | .tbl ps => h.get? a = some { cls := .none, data := .fields ps }
  | .met f x => h.get? a = some (PySem.W.methodObj (.ref f) (.ref x))
  | .ext φ => φ h /\ (∃ o, h.get? a = some o) /\ ∀ h1 h2 : Heap, φ h1 -> (∀ o, h1.get? a = some o -> h2.get? a = some o) -> φ h2
def HOk (H : Hp) (h : Heap) : Prop := ∀ a o, H a = some o -> ObjOk P w H h a o
end
section
variable {P : Program} {w : World} {H H' : Hp} {h h' : Heap} {a : Addr} {o : HO}
theorem ObjOk.lt (x : ObjOk P w H h a o) : a < h.objs.size := by
  cases o with
  | lst xs => obtain ⟨_, _, _, _, e⟩ := x; exact Heap.lt_size e
  | tup xs => obtain ⟨_, _, _, p⟩ := x; exact p.lt
  | dK kvs => obtain ⟨_, _, _, _, o, _, _, e, _⟩ := x; exact Heap.lt_size e
  | dT kvs => obtain ⟨_, _, _, _, o, _, _, e, _⟩ := x; exact Heap.lt_size e
  | set S n => obtain ⟨o, _, _, _, e, _⟩ := x; exact Heap.lt_size e
  | ins C dx fs => obtain ⟨_, _, _, e, _⟩ := x; exact Heap.lt_size e
  | own y => obtain ⟨_, e⟩ := x; exact Heap.lt_size e
  | xd fs => obtain ⟨_, ⟨_, _, _, e, _⟩, _⟩ := x; exact Heap.lt_size e
  | rng lo hi => obtain ⟨_, _, _, e⟩ := x; exact Heap.lt_size e
  | frz ob u => obtain ⟨e, _⟩ := x; exact Heap.lt_size e
  | tbl ps => exact Heap.lt_size (show h.get? a = some _ from x)
  | met f y => exact Heap.lt_size (show h.get? a = some _ from x)
  | ext φ => obtain ⟨_, ⟨_, e⟩, _⟩ := x; exact Heap.lt_size e
theorem Paired.mapP {α β : Type} {F G : α -> β -> Prop} : ∀ {l₁ : List α} {l₂ : List β}, Paired F l₁ l₂ -> (∀ a b, F a b -> G a b) -> Paired G l₁ l₂
  | _, _, .nil, _ => .nil
  | _, _, .cons r t, f => .cons (f _ _ r) (Paired.mapP t f)
theorem ObjOk.stay (x : ObjOk P w H h a o) (k : ∀ b u, (b = a \/ H b = some (.own a)) -> h.get? b = some u -> h'.get? b = some u)
    (ho : ∀ b, H b = some (.own a) -> H' b = some (.own a)) (ht : ∀ b xs, H b = some (.tup xs) -> H' b = some (.tup xs)) : ObjOk P w H' h' a o := by
  induction o with
  | lst xs => obtain ⟨z, its, n, r, e⟩ := x; exact ⟨z, its, n, r, k _ _ (.inl rfl) e⟩
  | tup xs => obtain ⟨z, its, r, ob, e, c⟩ := x; exact ⟨z, its, r, ob, k _ _ (.inl rfl) e, c⟩
  | dK kvs => obtain ⟨z, y, vs, r, ob, es, ep, e, c⟩ := x; exact ⟨z, y, vs, r, ob, es, ep, k _ _ (.inl rfl) e, c⟩
  | dT kvs =>
    obtain ⟨z, y, xs, r, ob, es, ep, e, c⟩ := x
    exact ⟨z, y, xs, Paired.mapP r fun p q z => ⟨z.1, ht _ _ z.2.1, z.2.2⟩, ob, es, ep, k _ _ (.inl rfl) e, c⟩
  | set S n => obtain ⟨ob, es, ep, t, e, c⟩ := x; exact ⟨ob, es, ep, t, k _ _ (.inl rfl) e, c⟩
  | ins C dx fs =>
    obtain ⟨d, z, ne, e, mA, ⟨od, es, ep, e2, c⟩, r⟩ := x
    exact ⟨ho _ d, z, ne, k _ _ (.inl rfl) e, mA, ⟨od, es, ep, k _ _ (.inr d) e2, c⟩, r⟩
  | own y => obtain ⟨ob, e⟩ := x; exact ⟨ob, k _ _ (.inl rfl) e⟩
  | xd fs => obtain ⟨mA, ⟨od, es, ep, e, c⟩, r⟩ := x; exact ⟨mA, ⟨od, es, ep, k _ _ (.inl rfl) e, c⟩, r⟩
  | rng lo hi => obtain ⟨t, u, v, e⟩ := x; exact ⟨t, u, v, k _ _ (.inl rfl) e⟩
  | frz ob u ih => obtain ⟨e, q⟩ := x; exact ⟨k _ _ (.inl rfl) e, ih q⟩
  | tbl ps =>
    have e : h.get? a = some { cls := .none, data := .fields ps } := x
    show h'.get? a = some { cls := .none, data := .fields ps }
    exact k a _ (.inl rfl) e
  | met f y =>
    have e : h.get? a = some (PySem.W.methodObj (.ref f) (.ref y)) := x
    show h'.get? a = some (PySem.W.methodObj (.ref f) (.ref y))
    exact k a _ (.inl rfl) e
  | ext φ => obtain ⟨p, ⟨o, e⟩, st⟩ := x; exact ⟨st _ _ p fun o q => k _ _ (.inl rfl) q, ⟨o, k _ _ (.inl rfl) e⟩, st⟩
theorem HOk.lt (x : HOk P w H h) (e : H a = some o) : a < h.objs.size := (x a o e).lt
theorem HOk.fresh (x : HOk P w H h) (e : h.objs.size <= a) : H a = none := by
  cases q : H a with
  | none => rfl
  | some u => exact absurd (Nat.lt_of_lt_of_le (x.lt q) e) (Nat.lt_irrefl _)
theorem HOk.kept (x : HOk P w H h) (k : ∀ b u, h.get? b = some u -> h'.get? b = some u) : HOk P w H h' := fun a o e =>
  (x a o e).stay (fun b u _ q => k b u q) (fun _ q => q) fun _ _ q => q
theorem HOk.laid (x : HOk P w H h) (k : ∀ b u, h.get? b = some u -> h'.get? b = some u) (hp : h.objs.size <= a) (new : ObjOk P w (upd H a o) h' a o) : HOk P w (upd H a o) h' := fun b u e => by
  have hn := x.fresh hp
  by_cases hb : b = a
  · subst hb; rw [upd_same] at e; cases e; exact new
  · rw [upd_ne hb] at e
    exact (x b u e).stay (fun c v _ q => k c v q) (fun c q => by rw [upd_ne (ne_of_none q hn)]; exact q) fun c xs q => by rw [upd_ne (ne_of_none q hn)]; exact q
end
def Rd (H : Hp) (a : Addr) (u : HO) : Prop := H a = some u \/ ∃ o, H a = some (.frz o u)
theorem Rd.ok {P : Program} {w : World} {H : Hp} {h : Heap} {a : Addr} {u : HO} (r : Rd H a u) (x : HOk P w H h) : ObjOk P w H h a u := by
  rcases r with r | ⟨o, r⟩
  · exact x a u r
  · obtain ⟨_, q⟩ := x a _ r
    exact q
def Mut : Option HO -> Prop
  | some (.lst _) => True
  | some (.dK _) => True
  | some (.dT _) => True
  | some (.set _ _) => True
  | some (.ins _ _ _) => True
  | some (.ext _) => True
  | _ => False
section
variable {P : Program} {w : World} {H : Hp} {h h' : Heap} {x e : Addr} {o' : HO}
theorem HOk.write (ok : HOk P w H h) (mu : Mut (H x)) (he : e = x \/ H e = some (.own x)) (k : ∀ b u, b ≠ e -> h.get? b = some u -> h'.get? b = some u) (heo : ∃ u, h'.get? e = some u)
    (new : ObjOk P w (upd H x o') h' x o') : HOk P w (upd H x o') h' := fun b u q => by
  have nown : ∀ c y, H c = some (.own y) -> c ≠ x := fun c y r z => by subst z; rw [r] at mu; exact mu
  have ntup : ∀ c xs, H c = some (.tup xs) -> c ≠ x := fun c xs r z => by subst z; rw [r] at mu; exact mu
  by_cases hb : b = x
  · subst hb; rw [upd_same] at q; cases q; exact new
  · rw [upd_ne hb] at q
    by_cases hbe : b = e
    · have q' : H b = some (.own x) := by
        rcases he with z | z
        · exact absurd (hbe.trans z) hb
        · rw [hbe]; exact z
      rw [q] at q'; cases q'
      obtain ⟨v, hv⟩ := heo
      exact ⟨v, by rw [hbe]; exact hv⟩
    · refine (ok b u q).stay (fun c v hc r => k c v ?_ r) (fun c r => by rw [upd_ne (nown c b r)]; exact r) fun c xs r => by rw [upd_ne (ntup c xs r)]; exact r
      rcases hc with rfl | hc
      · exact hbe
      · rintro rfl
        rcases he with z | z
        · exact nown c b hc z
        · rw [hc] at z; cases z; exact hb rfl
end
structure Un (fs ex : List Addr) (H H' : Hp) (h h' : Heap) : Prop where
  keep : ∀ b o, h.get? b = some o -> H b = none -> b ∉ fs -> b ∉ ex -> h'.get? b = some o
  slot : ∀ b o, h.get? b = some o -> H b = none -> b ∈ fs -> b ∉ ex -> ∃ sl, h'.get? b = some { o with slots := sl }
  free : ∀ b o, h.get? b = some o -> H b = none -> b ∉ ex -> H' b = none
  there : ∀ b o, h.get? b = some o -> b ∉ ex -> ∃ o', h'.get? b = some o'
  tups : ∀ b xs, H b = some (.tup xs) -> H' b = some (.tup xs)
  frzs : ∀ b o u, H b = some (.frz o u) -> H' b = some (.frz o u)
  tbls : ∀ b ps, H b = some (.tbl ps) -> ∃ more, H' b = some (.tbl (ps ++ more))
section
variable {fs fs' ex ex' : List Addr} {H H1 H2 : Hp} {h h1 h2 h' : Heap} {a x e : Addr} {o : HO}
theorem Un.any (u : Un fs ex H H1 h h1) {b : Addr} {ob : Obj} (q : h.get? b = some ob) (n : H b = none) (hx : b ∉ ex) : ∃ sl, h1.get? b = some { ob with slots := sl } := by
  by_cases hb : b ∈ fs
  · exact u.slot b ob q n hb hx
  · exact ⟨ob.slots, u.keep b ob q n hb hx⟩
theorem Un.kept (k : ∀ b u, h.get? b = some u -> h'.get? b = some u) : Un fs ex H H h h' :=
  ⟨fun b ob q _ _ _ => k b ob q, fun b ob q _ _ _ => ⟨ob.slots, k b ob q⟩, fun _ _ _ n _ => n, fun b ob q _ => ⟨ob, k b ob q⟩, fun _ _ q => q, fun _ _ _ q => q, fun _ ps q => ⟨#[], by rw [q]; simp⟩⟩
theorem Un.refl : Un fs ex H H h h := Un.kept fun _ _ q => q
theorem Un.laid (k : ∀ b u, h.get? b = some u -> h'.get? b = some u) (hp : h.objs.size <= a) (hn : H a = none) : Un fs ex H (upd H a o) h h' where
  keep := fun b u q _ _ _ => k b u q
  slot := fun b u q _ _ _ => ⟨u.slots, k b u q⟩
  free := fun b u q n _ => by rw [upd_ne (Nat.ne_of_lt (Nat.lt_of_lt_of_le (Heap.lt_size q) hp))]; exact n
  there := fun b u q _ => ⟨u, k b u q⟩
  tups := fun b xs q => by rw [upd_ne (ne_of_none q hn)]; exact q
  frzs := fun b u xs q => by rw [upd_ne (ne_of_none q hn)]; exact q
  tbls := fun b ps q => ⟨#[], by rw [upd_ne (ne_of_none q hn), q]; simp⟩
theorem Un.write (mu : Mut (H x)) (he : e = x \/ H e = some (.own x)) (k : ∀ b u, b ≠ e -> h.get? b = some u -> h'.get? b = some u) (heo : ∃ u, h'.get? e = some u) : Un fs ex H (upd H x o) h h' := by
  have hx : ∀ b, H b = none -> b ≠ x := fun b n z => by subst z; rw [n] at mu; exact mu
  have hb : ∀ b, H b = none -> b ≠ e := fun b n z => by
    subst z
    rcases he with r | r
    · exact hx b n r
    · rw [n] at r; cases r
  have hm : ∀ b u, H b = some u -> ¬ Mut (some u) -> b ≠ x := fun b u q nm z => by subst z; rw [q] at mu; exact nm mu
  refine ⟨fun b u q n _ _ => k b u (hb b n) q, fun b u q n _ _ => ⟨u.slots, k b u (hb b n) q⟩, fun b u q n _ => by rw [upd_ne (hx b n)]; exact n, fun b u q _ => ?_,
    fun b xs q => by rw [upd_ne (hm b _ q fun z => z)]; exact q, fun b u xs q => by rw [upd_ne (hm b _ q fun z => z)]; exact q, fun b ps q => ⟨#[], by rw [upd_ne (hm b _ q fun z => z), q]; simp⟩⟩
  by_cases hbe : b = e
  · subst hbe; exact heo
  · exact ⟨u, k b u hbe q⟩
end
def trk (h : Heap) (H : Hp) : List Addr := (List.range h.objs.size).filter fun a => (H a).isSome
def hidT (h : Heap) (H : Hp) : Heap := PySem.W.hideAll h (trk h H)
theorem hidT_size (h : Heap) (H : Hp) : (hidT h H).objs.size = h.objs.size := PySem.W.hideAll_size _ _
theorem hidT_get {h : Heap} {H : Hp} {b : Addr} {o : Obj} (e : h.get? b = some o) (n : H b = none) : (hidT h H).get? b = some o :=
  PySem.W.hideAll_get _ e fun hm => by
    have q : (H b).isSome = true := (List.mem_filter.mp hm).2
    rw [n] at q; simp at q
theorem of_hidT {h : Heap} {H : Hp} {b : Addr} {o : Obj} (e : (hidT h H).get? b = some o) : h.get? b = some o /\ H b = none := by
  have e' : h.get? b = some o := PySem.W.of_hideAll (trk h H) e
  refine ⟨e', ?_⟩
  cases q : H b with
  | none => rfl
  | some x =>
    have hm : b ∈ trk h H := List.mem_filter.mpr ⟨List.mem_range.mpr (Heap.lt_size e'), by simp [q]⟩
    have z : (hidT h H).get? b = none := PySem.W.hideAll_none (trk h H) hm
    rw [z] at e; cases e
def allNews (g h : Heap) (L : Addr) : List (Addr × Obj) := (List.range h.objs.size).filterMap fun a => if a = L \/ (g.get? a).isSome = true then none else (h.get? a).map fun o => (a, o)
def rest (g h : Heap) (L d : Addr) : List (Addr × Obj) := (allNews g h L).filter fun p => decide (p.1 ≠ d)
structure Mod (K : PySem.W.Frag) (mg : Str -> Option Value) (base : Heap) : Prop where
  kin : K.In base
  glob : base.Ns mainGlobals mg
  blt : ∃ mb, base.Ns builtinsNs mb /\ ∀ x : Str, x ≠ "__name__" -> mb x = bootBuiltins x
  nolimit : base.NoLimit
structure Cx where
  prog : Program
  w : World
  K : PySem.W.Frag
  mg : Str -> Option Value
  base : Heap
  A : Around
  N : List Str
  s₀ : Shared
  H₀ : Hp
  env : Env
  outer : List Env
  stack : List Env
  ex : List Addr
  fn : Str -> Bool
  calm : Bool
  pn : List (Addr × Obj)
  xe : Value -> Shared -> Prop
def frs (l : List Env) : List Addr := l.filterMap (·.frame)
abbrev Cx.fs (X : Cx) : List Addr := frs X.outer
def Vis (sc : Scope) (x : Str) : Prop := sc.names.lookup x = some .local \/ sc.names.lookup x = some .cell \/ sc.names.lookup x = some .free
def Loc (sc : Scope) (x : Str) : Prop := sc.names.lookup x = some .local \/ sc.names.lookup x = some .cell
def Look (env : Env) (h : Heap) (m : Str -> Option Value) (x : Str) (u : Value) : Prop :=
  (env.kindOf x = some .local /\ m x = some u) \/ ((env.kindOf x = some .cell \/ env.kindOf x = some .free) /\ ∃ c, env.cells.lookup x = some c /\ h.IsCell c (some u))
structure Cx.Ok (X : Cx) : Prop where
  mod : Mod X.K X.mg X.base
  kind : X.env.scope.kind = .function
  glob : X.env.globals = mainGlobals
  blt : X.env.builtins = builtinsNs
  above : X.s₀.heap.objs.size <= X.env.locals
  inj : ∀ x y c, X.env.cells.lookup x = some c -> X.env.cells.lookup y = some c -> x = y
  has : ∀ x, (X.env.kindOf x = some .cell \/ X.env.kindOf x = some .free) -> ∃ c, X.env.cells.lookup x = some c
  cab : ∀ x c, X.fn x = true -> X.env.cells.lookup x = some c -> X.s₀.heap.objs.size <= c
  hd : X.calm = true -> X.A.handled = none
  frames : X.A.frames = some X.stack
  stk : X.stack = X.outer \/ (X.stack = X.env :: X.outer /\ X.env.frame = some X.env.locals)
  exf : ∀ b ∈ X.ex, b ≠ X.env.locals /\ ∀ x c, X.env.cells.lookup x = some c -> c ≠ b
  bs : ∀ b o, X.base.get? b = some o -> X.s₀.heap.get? b = some o /\ X.H₀ b = none
  bsz : X.base.objs.size <= X.s₀.heap.objs.size
  noex : ∀ b o, X.base.get? b = some o -> b ∉ X.ex
  exfs : ∀ b ∈ X.ex, b ∉ X.fs
  funs : X.s₀.heap.FunFrames X.base X.outer
  frf : ∀ b ∈ X.fs, X.H₀ b = none
structure Inv (X : Cx) (pins : List (Addr × Obj)) (σ : List (Option V)) (H : Hp) (s : Shared) : Prop where
  ok : X.Ok
  os : s.os = X.s₀.os
  bare : AllBare s.gens
  base : Un X.fs X.ex X.H₀ H X.s₀.heap s.heap
  loc : ∃ m, s.heap.Ns X.env.locals m /\ ∀ (i : Nat) (x : Str) (v : V), X.N[i]? = some x -> σ[i]? = some (some v) -> Vis X.env.scope x -> ∃ u, RelV v u /\ Look X.env s.heap m x u
  cell : ∀ x c, X.env.cells.lookup x = some c -> ∃ v, s.heap.IsCell c v
  free : H X.env.locals = none
  freeC : ∀ x c, X.env.cells.lookup x = some c -> H c = none
  pin : ∀ p ∈ X.pn ++ pins, s.heap.get? p.1 = some p.2 /\ H p.1 = none /\ p.1 ≠ X.env.locals /\ p.1 ∉ X.fs /\ ∀ v, p.2.data ≠ .cell v
  hok : HOk X.prog X.w H s.heap
  len : σ.length = X.N.length
section
variable {X : Cx} {pins : List (Addr × Obj)} {σ : List (Option V)} {H H' : Hp} {s : Shared} {h' : Heap}
theorem Cx.Ok.nofr (ok : X.Ok) {b : Addr} {o : Obj} (e : X.base.get? b = some o) : b ∉ X.fs := fun hb => by
  have := (ok.funs.mem hb).1
  rw [e] at this; cases this
theorem Inv.bs (I : Inv X pins σ H s) : ∀ b o, X.base.get? b = some o -> s.heap.get? b = some o /\ H b = none := fun b o e =>
  ⟨I.base.keep b o (I.ok.bs b o e).1 (I.ok.bs b o e).2 (I.ok.nofr e) (I.ok.noex b o e), I.base.free b o (I.ok.bs b o e).1 (I.ok.bs b o e).2 (I.ok.noex b o e)⟩
theorem Inv.bk (I : Inv X pins σ H s) : ∀ b o, X.base.get? b = some o -> s.heap.get? b = some o := fun b o e => (I.bs b o e).1
theorem Inv.mod (I : Inv X pins σ H s) : Mod X.K X.mg X.base := I.ok.mod
theorem Inv.kIn (I : Inv X pins σ H s) : X.K.In s.heap := I.ok.mod.kin.keeps I.bk
theorem Inv.lt (I : Inv X pins σ H s) : X.env.locals < s.heap.objs.size := let ⟨_, hn, _⟩ := I.loc; hn.lt
theorem Inv.sz (I : Inv X pins σ H s) : X.s₀.heap.objs.size <= s.heap.objs.size := Nat.le_trans I.ok.above (Nat.le_of_lt I.lt)
theorem Inv.nofs (I : Inv X pins σ H s) {a : Addr} (h : s.heap.objs.size <= a) : a ∉ X.fs := fun hb => by
  obtain ⟨_, o, ho, _⟩ := I.ok.funs.mem hb
  exact absurd (Nat.lt_of_lt_of_le (Heap.lt_size ho) (Nat.le_trans I.sz h)) (Nat.lt_irrefl _)
theorem Inv.cne (I : Inv X pins σ H s) : ∀ x c, X.env.cells.lookup x = some c -> c ≠ X.env.locals := fun x c e z => by
  obtain ⟨v, o, ho, hd⟩ := I.cell x c e
  obtain ⟨m, ⟨o', es, ep, ho', hd', _⟩, _⟩ := I.loc
  rw [z, ho'] at ho; cases ho; rw [hd'] at hd; cases hd
theorem Inv.funs (I : Inv X pins σ H s) : s.heap.FunFrames X.base X.outer := by
  have all : ∀ (l : List Env), (∀ b ∈ frs l, b ∈ X.fs) -> X.s₀.heap.FunFrames X.base l -> s.heap.FunFrames X.base l := by
    intro l
    induction l with
    | nil => intro _ _; trivial
    | cons env r ih =>
      intro hs hl
      obtain ⟨hk, ⟨L, o, hf, hn, ho, hd⟩, hr⟩ := hl
      have hL : L ∈ X.fs := hs L (by unfold frs; rw [List.filterMap_cons, hf]; exact List.mem_cons_self)
      obtain ⟨sl, e⟩ := I.base.slot L o ho (I.ok.frf L hL) hL fun z => I.ok.exfs L z hL
      exact ⟨hk, ⟨L, _, hf, hn, e, hd⟩, ih (fun b hb => hs b (by unfold frs; rw [List.filterMap_cons, hf]; exact List.mem_cons_of_mem _ hb)) hr⟩
  exact all X.outer (fun _ hb => hb) I.ok.funs
theorem Inv.stack (I : Inv X pins σ H s) : s.heap.FunFrames X.base X.stack := by
  rcases I.ok.stk with e | ⟨e, hf⟩
  · rw [e]; exact I.funs
  · rw [e]
    obtain ⟨m, hn, _⟩ := I.loc
    refine .cons (by rw [I.ok.kind]; decide) hf hn ?_ I.funs
    exact Heap.get?_none_of_le (Nat.le_trans I.ok.bsz I.ok.above)
theorem Inv.stkSub (I : Inv X pins σ H s) : ∀ b ∈ frs X.stack, b ∈ X.env.locals :: X.fs := fun b hb => by
  rcases I.ok.stk with e | ⟨e, hf⟩
  · rw [e] at hb; exact List.mem_cons_of_mem _ hb
  · rw [e] at hb
    unfold frs at hb
    rw [List.filterMap_cons, hf] at hb
    exact hb
theorem Inv.stkFree (I : Inv X pins σ H s) : ∀ b ∈ frs X.stack, H b = none := fun b hb => by
  rcases List.mem_cons.mp (I.stkSub b hb) with e | hb
  · rw [e]; exact I.free
  · obtain ⟨_, o, ho, _⟩ := I.ok.funs.mem hb
    exact I.base.free b o ho (I.ok.frf b hb) fun z => I.ok.exfs b z hb
theorem Inv.step {g' : Array GenState} {t' : Nat} {d' : Drawn} {ch : List Addr} (I : Inv X pins σ H s)
    (hch : ∀ b ∈ ch, (b ∈ X.ex \/ X.s₀.heap.objs.size <= b) /\ b ≠ X.env.locals /\ (∀ x c, X.env.cells.lookup x = some c -> c ≠ b) /\ ∀ p ∈ X.pn ++ pins, p.1 ≠ b)
    (keep : ∀ b o, b ≠ X.env.locals -> b ∉ X.fs -> b ∉ ch -> s.heap.get? b = some o -> H b = none -> h'.get? b = some o)
    (slot : ∀ b o, b ≠ X.env.locals -> b ∈ X.fs -> b ∉ ch -> s.heap.get? b = some o -> H b = none -> ∃ sl, h'.get? b = some { o with slots := sl }) (free : ∀ b o, b ∉ ch -> s.heap.get? b = some o -> H b = none -> H' b = none)
    (there : ∀ b o, b ∉ ch -> s.heap.get? b = some o -> ∃ o', h'.get? b = some o')
    (tups : ∀ b xs, H b = some (.tup xs) -> H' b = some (.tup xs)) (frzs : ∀ b o u, H b = some (.frz o u) -> H' b = some (.frz o u)) (tbls : ∀ b ps, H b = some (.tbl ps) -> ∃ more, H' b = some (.tbl (ps ++ more)))
    (ns : ∀ m, s.heap.Ns X.env.locals m -> h'.Ns X.env.locals m) (hok : HOk X.prog X.w H' h') (hg : AllBare g') :
    Inv X pins σ H' { s with heap := h', gens := g', drawn := d', toks := t' } := by
  have neL : ∀ b o, X.s₀.heap.get? b = some o -> b ≠ X.env.locals := fun b o e => Nat.ne_of_lt (Nat.lt_of_lt_of_le (Heap.lt_size e) I.ok.above)
  have neC : ∀ b o, X.s₀.heap.get? b = some o -> b ∉ X.ex -> b ∉ ch := fun b o e hx hb => by
    rcases (hch b hb).1 with z | z
    · exact hx z
    · exact absurd (Nat.lt_of_lt_of_le (Heap.lt_size e) z) (Nat.lt_irrefl _)
  have cellK : ∀ x c, X.env.cells.lookup x = some c -> ∀ v, s.heap.IsCell c v -> h'.IsCell c v := fun x c e v ⟨o, ho, hd⟩ => by
    have nch : c ∉ ch := fun z => (hch c z).2.2.1 x c e rfl
    by_cases hc : c ∈ X.fs
    · obtain ⟨sl, q⟩ := slot c o (I.cne x c e) hc nch ho (I.freeC x c e)
      exact ⟨_, q, hd⟩
    · exact ⟨o, keep c o (I.cne x c e) hc nch ho (I.freeC x c e), hd⟩
  refine ⟨I.ok, I.os, hg, ⟨fun b o e n hb hx => ?_, fun b o e n hb hx => ?_, fun b o e n hx => ?_, fun b o e hx => ?_, fun b xs e => tups b xs (I.base.tups b xs e), fun b o xs e => frzs b o xs (I.base.frzs b o xs e), fun b ps e => ?_⟩, ?_, fun x c e => ?_, ?_, fun x c e => ?_, fun p hp => ?_, hok, I.len⟩
  · exact keep b o (neL b o e) hb (neC b o e hx) (I.base.keep b o e n hb hx) (I.base.free b o e n hx)
  · obtain ⟨sl, e1⟩ := I.base.slot b o e n hb hx
    obtain ⟨sl', e2⟩ := slot b _ (neL b o e) hb (neC b o e hx) e1 (I.base.free b o e n hx)
    exact ⟨sl', e2⟩
  · obtain ⟨o', e1⟩ := I.base.there b o e hx
    exact free b o' (neC b o e hx) e1 (I.base.free b o e n hx)
  · obtain ⟨o', e1⟩ := I.base.there b o e hx
    exact there b o' (neC b o e hx) e1
  · obtain ⟨m1, e1⟩ := I.base.tbls b ps e
    obtain ⟨m2, e2⟩ := tbls b _ e1
    exact ⟨m1 ++ m2, by rw [e2, Array.append_assoc]⟩
  · obtain ⟨m, hn, hl⟩ := I.loc
    refine ⟨m, ns m hn, fun i x v e1 e2 e3 => ?_⟩
    obtain ⟨u, r, l⟩ := hl i x v e1 e2 e3
    refine ⟨u, r, ?_⟩
    rcases l with l | ⟨k, c, e, z⟩
    · exact .inl l
    · exact .inr ⟨k, c, e, cellK x c e _ z⟩
  · obtain ⟨v, z⟩ := I.cell x c e
    exact ⟨v, cellK x c e v z⟩
  · obtain ⟨m, ⟨o, _, _, ho, _⟩, _⟩ := I.loc
    exact free _ o (fun z => (hch _ z).2.1 rfl) ho I.free
  · obtain ⟨v, o, ho, hd⟩ := I.cell x c e
    exact free c o (fun z => (hch c z).2.2.1 x c e rfl) ho (I.freeC x c e)
  · obtain ⟨e, n, ne, nf, d⟩ := I.pin p hp
    have nch : p.1 ∉ ch := fun z => (hch p.1 z).2.2.2 p hp rfl
    exact ⟨keep p.1 p.2 ne nf nch e n, free p.1 p.2 nch e n, ne, nf, d⟩
theorem Inv.un {t' : Nat} (I : Inv X pins σ H s) (u : Un X.fs [] H H' s.heap h') (hok : HOk X.prog X.w H' h') : Inv X pins σ H' { s with heap := h', toks := t' } := by
  obtain ⟨m, ⟨o, es, ep, ho, r⟩, _⟩ := id I.loc
  obtain ⟨sl, hL⟩ := u.any ho I.free (by simp)
  exact I.step (g' := s.gens) (d' := s.drawn) (ch := []) (fun _ z => nomatch z) (fun b o _ hb _ e n => u.keep b o e n hb (by simp)) (fun b o _ hb _ e n => u.slot b o e n hb (by simp)) (fun b o _ e n => u.free b o e n (by simp)) (fun b o _ e => u.there b o e (by simp)) u.tups u.frzs u.tbls (fun m' hm => by
    obtain ⟨o', es', ep', ho', r'⟩ := hm
    rw [ho] at ho'; cases ho'
    exact ⟨_, es', ep', hL, r'⟩) hok I.bare
theorem Inv.call {g' : Array GenState} {t' : Nat} {d' : Drawn} {ch : List Addr} (I : Inv X pins σ H s) (u : Un (frs X.stack) ch H H' s.heap h') (hok : HOk X.prog X.w H' h') (hg : AllBare g')
    (hch : ∀ b ∈ ch, (b ∈ X.ex \/ X.s₀.heap.objs.size <= b) /\ b ≠ X.env.locals /\ (∀ x c, X.env.cells.lookup x = some c -> c ≠ b) /\ ∀ p ∈ X.pn ++ pins, p.1 ≠ b) :
    Inv X pins σ H' { s with heap := h', gens := g', drawn := d', toks := t' } := by
  obtain ⟨m, ⟨o, es, ep, ho, r⟩, _⟩ := id I.loc
  obtain ⟨sl, hL⟩ := u.any ho I.free fun z => (hch _ z).2.1 rfl
  exact I.step (ch := ch) hch (fun b o hL hb hc e n => u.keep b o e n (fun z => (List.mem_cons.mp (I.stkSub b z)).elim hL hb) hc) (fun b o _ _ hc e n => u.any e n hc) (fun b o hc e n => u.free b o e n hc) (fun b o hc e => u.there b o e hc) u.tups u.frzs u.tbls (fun m' hm => by
    obtain ⟨o', es', ep', ho', r'⟩ := hm
    rw [ho] at ho'; cases ho'
    exact ⟨_, es', ep', hL, r'⟩) hok hg
theorem Inv.turned {t' : Nat} {it : Addr} (I : Inv X pins σ H s) (k : ∀ b o, b ≠ it -> s.heap.get? b = some o -> h'.get? b = some o) (hn : H it = none) (hL : it ≠ X.env.locals)
    (h1 : it ∈ X.ex \/ X.s₀.heap.objs.size <= it) (h2 : ∀ x c, X.env.cells.lookup x = some c -> c ≠ it) (h3 : ∀ p ∈ X.pn ++ pins, p.1 ≠ it) : Inv X pins σ H { s with heap := h', toks := t' } := by
  have nit : ∀ b u, H b = some u -> b ≠ it := fun b u e z => by rw [z, hn] at e; cases e
  refine I.step (g' := s.gens) (d' := s.drawn) (ch := [it]) (fun b hb => ?_) (fun b o _ _ hc e _ => k b o (fun z => hc (by simp [z])) e) (fun b o _ _ hc e _ => ⟨o.slots, k b o (fun z => hc (by simp [z])) e⟩) (fun _ _ _ _ n => n)
    (fun b o hc e => ⟨o, k b o (fun z => hc (by simp [z])) e⟩) (fun _ _ e => e) (fun _ _ _ e => e) (fun b ps e => ⟨#[], by rw [e]; simp⟩) (fun m hm => ?_) (fun b u e => ?_) I.bare
  · have e : b = it := by simpa using hb
    subst e
    exact ⟨h1, hL, h2, h3⟩
  · obtain ⟨o, es, ep, ho, r⟩ := hm
    exact ⟨o, es, ep, k _ o (Ne.symm hL) ho, r⟩
  · refine (I.hok b u e).stay (fun c v hc q => k c v ?_ q) (fun _ q => q) fun _ _ q => q
    rcases hc with z | z
    · rw [z]; exact nit b u e
    · exact nit c _ z
theorem Inv.tok (I : Inv X pins σ H s) (t : Nat) : Inv X pins σ H { s with toks := t } := I.un (h' := s.heap) (t' := t) Un.refl I.hok
theorem Inv.kept {t' : Nat} (I : Inv X pins σ H s) (k : ∀ b u, s.heap.get? b = some u -> h'.get? b = some u) : Inv X pins σ H { s with heap := h', toks := t' } := I.un (Un.kept k) (I.hok.kept k)
theorem Inv.laid {a : Addr} {o : HO} {t' : Nat} (I : Inv X pins σ H s) (k : ∀ b u, s.heap.get? b = some u -> h'.get? b = some u) (hp : s.heap.objs.size <= a) (new : ObjOk X.prog X.w (upd H a o) h' a o) :
    Inv X pins σ (upd H a o) { s with heap := h', toks := t' } := I.un (Un.laid k hp (I.hok.fresh hp)) (I.hok.laid k hp new)
theorem Inv.write {x e : Addr} {o : HO} {t' : Nat} (I : Inv X pins σ H s) (mu : Mut (H x)) (he : e = x \/ H e = some (.own x)) (k : ∀ b u, b ≠ e -> s.heap.get? b = some u -> h'.get? b = some u) (heo : ∃ u, h'.get? e = some u)
    (new : ObjOk X.prog X.w (upd H x o) h' x o) : Inv X pins σ (upd H x o) { s with heap := h', toks := t' } := I.un (Un.write mu he k heo) (I.hok.write mu he k heo new)
theorem Inv.pins_of {pins' : List (Addr × Obj)} (I : Inv X pins σ H s) (h : ∀ p ∈ pins', s.heap.get? p.1 = some p.2 /\ H p.1 = none /\ p.1 ≠ X.env.locals /\ p.1 ∉ X.fs /\ ∀ v, p.2.data ≠ .cell v) : Inv X pins' σ H s :=
  ⟨I.ok, I.os, I.bare, I.base, I.loc, I.cell, I.free, I.freeC, fun p hp => (List.mem_append.mp hp).elim (fun z => I.pin p (List.mem_append_left _ z)) (h p), I.hok, I.len⟩
theorem nodup_ix {N : List Str} (hN : N.Nodup) {i j : Nat} {x : Str} (a : N[i]? = some x) (b : N[j]? = some x) : i = j := by
  obtain ⟨h1, e1⟩ := List.getElem?_eq_some_iff.mp a
  obtain ⟨h2, e2⟩ := List.getElem?_eq_some_iff.mp b
  exact (List.getElem_inj hN).mp (e1.trans e2.symm)
theorem store_ok2 {M : Model} {A : Around} {E : Value -> Shared -> Prop} {i : Nat} {x : Str} {v : V} {u : Value} {Q : Unit -> Shared -> Prop} (I : Inv X pins σ H s) (hN : X.N.Nodup) (hi : X.N[i]? = some x) (hx : Loc X.env.scope x) (r : RelV v u)
    (h : ∀ s', Inv X pins (σ.set i (some v)) H s' -> (∃ a, Heap.SameBut a s.heap s'.heap /\ (a = X.env.locals \/ X.env.cells.lookup x = some a)) -> Q () s') (hf : X.fn x = true \/ X.env.scope.names.lookup x = some .local := by first | exact .inl rfl | exact .inr rfl | assumption) : wpAny M A (storeName X.env x u) Q E s := by
  obtain ⟨m, hn, hl⟩ := id I.loc
  have hcls : (X.env.scope.kind == .class || (X.env.scope.kind == .module && X.env.locals != X.env.globals)) = false := by rw [I.ok.kind]; rfl
  have hiσ : i < σ.length := by rw [I.len]; exact (List.getElem?_eq_some_iff.mp hi).1
  have cne := I.cne
  have tracked : ∀ {a : Addr} {h' : Heap}, (∃ o, s.heap.get? a = some o /\ H a = none) -> Heap.SameBut a s.heap h' -> HOk X.prog X.w H h' := fun {a h'} ha hs b ob e => by
    obtain ⟨_, _, hfree⟩ := ha
    refine (I.hok b ob e).stay (fun c w' hc q => (hs.2 c ?_).trans q) (fun _ q => q) fun _ _ q => q
    rintro rfl
    rcases hc with rfl | hc
    · rw [hfree] at e; cases e
    · rw [hfree] at hc; cases hc
  rcases hx with hk | hk
  · refine wpAny_storeName_local hk hn (fun h' hn' hs => ?_) hcls
    obtain ⟨oL, _, _, hoL, _⟩ := id hn
    refine h _ ⟨I.ok, I.os, I.bare, ⟨fun b o e n hb hx => ?_, fun b o e n hb hx => ?_, I.base.free, fun b o e hx => ?_, I.base.tups, I.base.frzs, I.base.tbls⟩, ⟨_, hn', fun j y v' e1 e2 e3 => ?_⟩, fun y c e => ?_, I.free, I.freeC, fun p hp => ?_, tracked ⟨oL, hoL, I.free⟩ hs, by simpa using I.len⟩ ⟨_, hs, .inl rfl⟩
    · exact (hs.2 b (Nat.ne_of_lt (Nat.lt_of_lt_of_le (Heap.lt_size e) I.ok.above))).trans (I.base.keep b o e n hb hx)
    · obtain ⟨sl, e1⟩ := I.base.slot b o e n hb hx
      exact ⟨sl, (hs.2 b (Nat.ne_of_lt (Nat.lt_of_lt_of_le (Heap.lt_size e) I.ok.above))).trans e1⟩
    · obtain ⟨o', e1⟩ := I.base.there b o e hx
      exact ⟨o', (hs.2 b (Nat.ne_of_lt (Nat.lt_of_lt_of_le (Heap.lt_size e) I.ok.above))).trans e1⟩
    · by_cases hj : j = i
      · subst hj
        rw [hi] at e1; cases e1
        rw [List.getElem?_set_self hiσ] at e2
        cases e2
        exact ⟨u, r, .inl ⟨hk, by simp⟩⟩
      · rw [List.getElem?_set_ne (Ne.symm hj)] at e2
        obtain ⟨u', r', q⟩ := hl j y v' e1 e2 e3
        refine ⟨u', r', ?_⟩
        rcases q with ⟨k, e⟩ | ⟨k, c, e, z⟩
        · refine .inl ⟨k, ?_⟩
          have : y ≠ x := fun e => hj (nodup_ix hN e1 (e ▸ hi))
          simp [this, e]
        · exact .inr ⟨k, c, e, z.sameBut hs (cne y c e)⟩
    · obtain ⟨w', z⟩ := I.cell y c e
      exact ⟨w', z.sameBut hs (cne y c e)⟩
    · obtain ⟨e, n, ne, nf, d⟩ := I.pin p hp
      exact ⟨(hs.2 p.1 ne).trans e, n, ne, nf, d⟩
  · have hfn : X.fn x = true := by
      rcases hf with z | z
      · exact z
      · rw [z] at hk; cases hk
    obtain ⟨c, hc⟩ := I.ok.has x (.inl hk)
    obtain ⟨w', z⟩ := I.cell x c hc
    refine wpAny_storeName_cell I.ok.kind hk hc z (fun h' hc' hs => ?_)
    obtain ⟨oc, hoc, hocd⟩ := id z
    refine h { s with heap := h' } ⟨I.ok, I.os, I.bare, ⟨fun b o e n hb hx => ?_, fun b o e n hb hx => ?_, I.base.free, fun b o e hx => ?_, I.base.tups, I.base.frzs, I.base.tbls⟩, ⟨m, hn.sameBut hs (Ne.symm (cne x c hc)), fun j y v' e1 e2 e3 => ?_⟩, fun y c' e => ?_, I.free, I.freeC, fun p hp => ?_, tracked ⟨oc, hoc, I.freeC x c hc⟩ hs, by simpa using I.len⟩ ⟨c, hs, .inr hc⟩
    · exact (hs.2 b (Nat.ne_of_lt (Nat.lt_of_lt_of_le (Heap.lt_size e) (I.ok.cab x c hfn hc)))).trans (I.base.keep b o e n hb hx)
    · obtain ⟨sl, e1⟩ := I.base.slot b o e n hb hx
      exact ⟨sl, (hs.2 b (Nat.ne_of_lt (Nat.lt_of_lt_of_le (Heap.lt_size e) (I.ok.cab x c hfn hc)))).trans e1⟩
    · obtain ⟨o', e1⟩ := I.base.there b o e hx
      exact ⟨o', (hs.2 b (Nat.ne_of_lt (Nat.lt_of_lt_of_le (Heap.lt_size e) (I.ok.cab x c hfn hc)))).trans e1⟩
    · by_cases hj : j = i
      · subst hj
        rw [hi] at e1; cases e1
        rw [List.getElem?_set_self hiσ] at e2
        cases e2
        exact ⟨u, r, .inr ⟨.inl hk, c, hc, hc'⟩⟩
      · rw [List.getElem?_set_ne (Ne.symm hj)] at e2
        obtain ⟨u', r', q⟩ := hl j y v' e1 e2 e3
        refine ⟨u', r', ?_⟩
        rcases q with q | ⟨k, c', e, z'⟩
        · exact .inl q
        · refine .inr ⟨k, c', e, z'.sameBut hs ?_⟩
          rintro rfl
          exact hj (nodup_ix hN e1 (I.ok.inj _ _ _ e hc ▸ hi))
    · by_cases hcc : c' = c
      · subst hcc; exact ⟨_, hc'⟩
      · obtain ⟨w2, z2⟩ := I.cell y c' e
        exact ⟨w2, z2.sameBut hs hcc⟩
    · obtain ⟨e, n, ne, nf, d⟩ := I.pin p hp
      refine ⟨(hs.2 p.1 ?_).trans e, n, ne, nf, d⟩
      intro q
      rw [q, hoc] at e
      have q' : oc = p.2 := Option.some.inj e
      exact d w' (by rw [<- q']; exact hocd)
theorem store_ok {M : Model} {A : Around} {E : Value -> Shared -> Prop} {i : Nat} {x : Str} {v : V} {u : Value} {Q : Unit -> Shared -> Prop} (I : Inv X pins σ H s) (hN : X.N.Nodup) (hi : X.N[i]? = some x) (hx : Loc X.env.scope x) (r : RelV v u)
    (h : ∀ s', Inv X pins (σ.set i (some v)) H s' -> Q () s') (hf : X.fn x = true \/ X.env.scope.names.lookup x = some .local := by first | exact .inl rfl | exact .inr rfl | assumption) : wpAny M A (storeName X.env x u) Q E s :=
  store_ok2 I hN hi hx r (fun s' I' _ => h s' I') hf
theorem Inv.call' {s' : Shared} {ch : List Addr} (I : Inv X pins σ H s) (ho : s'.os = s.os) (u : Un (frs X.stack) ch H H' s.heap s'.heap) (hok : HOk X.prog X.w H' s'.heap) (hg : AllBare s'.gens)
    (hch : ∀ b ∈ ch, (b ∈ X.ex \/ X.s₀.heap.objs.size <= b) /\ b ≠ X.env.locals /\ (∀ x c, X.env.cells.lookup x = some c -> c ≠ b) /\ ∀ p ∈ X.pn ++ pins, p.1 ≠ b) : Inv X pins σ H' s' := by
  obtain ⟨h', g', d', t', o'⟩ := s'
  have e : o' = s.os := ho
  subst e
  exact I.call (g' := g') (t' := t') (d' := d') u hok hg hch
end
abbrev XK := Value -> Option Addr -> Hp -> Prop
abbrev St := List (Option V)
abbrev VK := V -> Hp -> Prop
abbrev TE := St -> Hp -> VK -> Prop
abbrev TT := St -> Hp -> (Bool -> Hp -> Prop) -> Prop
abbrev TA := St -> Hp -> (List V -> Hp -> Prop) -> Prop
structure Ends where
  nx : St -> Hp -> Prop
  rt : VK
  bk : St -> Hp -> Prop := fun _ _ => False
  ct : St -> Hp -> Prop := fun _ _ => False
abbrev TS := Ends -> St -> Hp -> Prop
def EP (X : Cx) (pins : List (Addr × Obj)) (σ : St) (Q : VK) (u : Value) (s' : Shared) : Prop := ∃ v H', Inv X pins σ H' s' /\ RelV v u /\ Q v H'
def TP (X : Cx) (pins : List (Addr × Obj)) (σ : St) (Q : Bool -> Hp -> Prop) (b : Bool) (s' : Shared) : Prop := ∃ H', Inv X pins σ H' s' /\ Q b H'
def AP (X : Cx) (pins : List (Addr × Obj)) (σ : St) (Q : List V -> Hp -> Prop) (us : List Value) (s' : Shared) : Prop := ∃ vs H', Inv X pins σ H' s' /\ Vals vs us /\ Q vs H'
def SP (X : Cx) (pins : List (Addr × Obj)) (D : Ends) (f : Flow) (s' : Shared) : Prop :=
  match f with
  | .next => ∃ σ' H', Inv X pins σ' H' s' /\ D.nx σ' H'
  | .brk => ∃ σ' H', Inv X pins σ' H' s' /\ D.bk σ' H'
  | .cont => ∃ σ' H', Inv X pins σ' H' s' /\ D.ct σ' H'
  | .ret u => ∃ v σ' H', Inv X pins σ' H' s' /\ RelV v u /\ D.rt v H'
def PE (X : Cx) (e : Expr) (t : TE) : Prop :=
  ∀ (pins : List (Addr × Obj)) (s : Shared) (σ : St) (H : Hp) (Q : VK), Inv X pins σ H s -> t σ H Q -> wpAny (model X.prog X.w) X.A (eval e X.env) (EP X pins σ Q) X.xe s
def PT (X : Cx) (e : Expr) (t : TT) : Prop :=
  ∀ (pins : List (Addr × Obj)) (s : Shared) (σ : St) (H : Hp) (Q : Bool -> Hp -> Prop), Inv X pins σ H s -> t σ H Q -> wpAny (model X.prog X.w) X.A (isTrue e X.env (eval e X.env)) (TP X pins σ Q) X.xe s
def PW (X : Cx) (e : Expr) (t : TT) : Prop :=
  ∀ (whole : Sem Value) (pins : List (Addr × Obj)) (s : Shared) (σ : St) (H : Hp) (Q : Bool -> Hp -> Prop), Inv X pins σ H s -> t σ H Q -> wpAny (model X.prog X.w) X.A (isTrue e X.env whole) (TP X pins σ Q) X.xe s
theorem PW.pt {X : Cx} {e : Expr} {t : TT} (h : PW X e t) : PT X e t := h _
def PA (X : Cx) (es : List Expr) (t : TA) : Prop :=
  ∀ (pos : Pos) (pins : List (Addr × Obj)) (s : Shared) (σ : St) (H : Hp) (Q : List V -> Hp -> Prop), Inv X pins σ H s -> t σ H Q -> wpAny (model X.prog X.w) X.A (spliced (backTo pos (starEach es X.env))) (AP X pins σ Q) X.xe s
def PS (X : Cx) (st : Stmt) (t : TS) : Prop :=
  ∀ (pins : List (Addr × Obj)) (s : Shared) (σ : St) (H : Hp) (D : Ends), Inv X pins σ H s -> t D σ H -> wpAny (model X.prog X.w) X.A (exec st X.env) (SP X pins D) X.xe s
def PSs (X : Cx) (st : List Stmt) (t : TS) : Prop :=
  ∀ (pins : List (Addr × Obj)) (s : Shared) (σ : St) (H : Hp) (D : Ends), Inv X pins σ H s -> t D σ H -> wpAny (model X.prog X.w) X.A (execs st X.env) (SP X pins D) X.xe s
theorem thn {α : Type} {t : Sem α} {Q Q' : α -> Shared -> Prop} {M : Model} {A : Around} {E : Value -> Shared -> Prop} {s : Shared} (h : wpAny M A t Q E s) (hQ : ∀ a s, Q a s -> Q' a s) : wpAny M A t Q' E s := wpAny_mono h hQ fun _ _ x => x
section
variable {X : Cx}
def tVar (i : Nat) : TE := fun σ H Q => ∃ v, σ[i]? = some (some v) /\ Q v H
def tC (v : V) : TE := fun _ H Q => Q v H
theorem pe_var {i : Nat} {x : Str} {pos : Pos} (hN : X.N[i]? = some x) (hv : Vis X.env.scope x) (hd : (x == ("__debug__" : Str)) = false := by decide) (hcd : (x == ("__classdict__" : Str)) = false := by decide) : PE X (.Name x pos) (tVar i) := by
  intro pins s σ H Q I h
  obtain ⟨v, e, h⟩ := h
  obtain ⟨m, hn, hl⟩ := I.loc
  obtain ⟨u, r, l⟩ := hl i x v hN e hv
  have fin : EP X pins σ Q u s := ⟨v, H, I, r, h⟩
  rcases l with ⟨hk, hm⟩ | ⟨hk, c, hc, hcell⟩
  · exact wpAny_Name (wpAny_loadName_local I.ok.kind hk hn hm fin) hd
  · rcases hk with hk | hk
    · exact wpAny_Name (wpAny_loadName_cell I.ok.kind hk hc hcell fin) hd
    · exact wpAny_Name (wpAny_loadName_free I.ok.kind hk hc hcell fin hcd) hd
theorem pe_int {i j pos} : PE X (.Constant (.int i) j pos) (tC (.int i)) := fun _ _ _ H _ I h => wpAny_Constant_int ⟨.int i, H, I.tok _, ⟨_, rfl⟩, h⟩
theorem pe_bl {b j pos} : PE X (.Constant (.bool b) j pos) (tC (.bl b)) := fun _ _ _ H _ I h => Constant_bool ⟨.bl b, H, I, rfl, h⟩
theorem pe_non {j pos} : PE X (.Constant .none j pos) (tC .non) := fun _ _ _ H _ I h => Constant_none ⟨.non, H, I, rfl, h⟩
theorem pe_str {x j pos} : PE X (.Constant (.str x) j pos) (tC (.str x)) := fun _ _ _ H _ I h => Calls.Constant_str ⟨.str x, H, I.tok _, ⟨_, rfl⟩, h⟩
def Gl (X : Cx) (x : Str) : Prop := X.env.kindOf x = some .globalImplicit
theorem ld_glob {E : Value -> Shared -> Prop} {pins : List (Addr × Obj)} {s : Shared} {σ : St} {H : Hp} {x : Str} {u : Value} {pos : Pos} {Q : Value -> Shared -> Prop} (I : Inv X pins σ H s) (hg : Gl X x) (hm : X.mg x = some u) (h : Q u s)
    (hd : (x == ("__debug__" : Str)) = false := by decide) : wpAny (model X.prog X.w) X.A (eval (.Name x pos) X.env) Q E s :=
  Calls.Name_function_global I.ok.kind hg (Calls.loadGlobal_global (by rw [I.ok.glob]; exact I.mod.glob.keeps I.bk) hm h) hd
theorem ld_blt {E : Value -> Shared -> Prop} {pins : List (Addr × Obj)} {s : Shared} {σ : St} {H : Hp} {x : Str} {u : Value} {pos : Pos} {Q : Value -> Shared -> Prop} (I : Inv X pins σ H s) (hg : Gl X x) (hm : X.mg x = none) (hv : bootBuiltins x = some u) (h : Q u s)
    (hn : x ≠ "__name__" := by decide) (hd : (x == ("__debug__" : Str)) = false := by decide) : wpAny (model X.prog X.w) X.A (eval (.Name x pos) X.env) Q E s := by
  obtain ⟨mb, h1, h2⟩ := I.mod.blt
  exact Calls.Name_function_global I.ok.kind hg (Calls.loadGlobal_builtin (by rw [I.ok.glob]; exact I.mod.glob.keeps I.bk) hm (by rw [I.ok.blt]; exact h1.keeps I.bk) ((h2 x hn).trans hv) h) hd
theorem pe_bltn {x : Str} {v : V} {u : Value} {pos : Pos} (hg : Gl X x) (hm : X.mg x = none) (hv : bootBuiltins x = some u) (r : RelV v u) (hn : x ≠ "__name__" := by decide) (hd : (x == ("__debug__" : Str)) = false := by decide) : PE X (.Name x pos) (tC v) :=
  fun _ _ _ H _ I h => ld_blt I hg hm hv ⟨v, H, I, r, h⟩ hn hd
variable {a b : Expr} {ta tb : TE} {pos : Pos}
def tB (t : TE) : TT := fun σ H Q => t σ H fun x H1 => ∃ c, x = .bl c /\ Q c H1
theorem pt_val {e : Expr} {t : TE} (h : PE X e t) (he : ∀ whole, isTrue e X.env whole = (do let v <- whole; standAt e.pos; holding [v] (truthy v)) := by intro _; rfl) : PT X e (tB t) := by
  intro pins s σ H Q I hw
  refine isTrue_plain (thn (h pins s σ H _ I hw) fun v s1 ⟨x, H1, I1, r1, q1⟩ => ?_) (he _)
  obtain ⟨d, rfl, q⟩ := q1
  cases r1
  exact wpAny_truthy_bool ⟨H1, I1, q⟩
variable {tA tB' : TT} {rest : List Expr}
def tAnd (t u : TT) : TT := fun σ H Q => t σ H fun c H1 => if c = true then u σ H1 Q else Q false H1
def tOr (t u : TT) : TT := fun σ H Q => t σ H fun c H1 => if c = true then Q true H1 else u σ H1 Q
def tNot (t : TT) : TT := fun σ H Q => t σ H fun c H1 => Q (!c) H1
theorem pw_and1 (ha : PT X a tA) : PW X (.BoolOp .And [a] pos) tA := by
  intro wh pins s σ H Q I h
  refine isTrue_and (thn (ha pins s σ H Q I h) fun c s1 e => ?_)
  cases c with
  | true => exact isTrue_and_nil e
  | false => exact e
theorem pw_or1 (ha : PT X a tA) : PW X (.BoolOp .Or [a] pos) tA := by
  intro wh pins s σ H Q I h
  refine isTrue_or (thn (ha pins s σ H Q I h) fun c s1 e => ?_)
  cases c with
  | false => exact isTrue_or_nil e
  | true => exact e
theorem pw_and (ha : PT X a tA) (hb : PW X (.BoolOp .And (b :: rest) pos) tB') : PW X (.BoolOp .And (a :: b :: rest) pos) (tAnd tA tB') := by
  intro wh pins s σ H Q I h
  refine isTrue_and (thn (ha pins s σ H _ I h) fun c s1 ⟨H1, I1, q1⟩ => ?_)
  cases c with
  | true => exact hb wh pins s1 σ H1 Q I1 q1
  | false => exact ⟨H1, I1, q1⟩
theorem pw_or (ha : PT X a tA) (hb : PW X (.BoolOp .Or (b :: rest) pos) tB') : PW X (.BoolOp .Or (a :: b :: rest) pos) (tOr tA tB') := by
  intro wh pins s σ H Q I h
  refine isTrue_or (thn (ha pins s σ H _ I h) fun c s1 ⟨H1, I1, q1⟩ => ?_)
  cases c with
  | true => exact ⟨H1, I1, q1⟩
  | false => exact hb wh pins s1 σ H1 Q I1 q1
theorem pt_not (ha : PT X a tA) : PT X (.UnaryOp .Not a pos) (tNot tA) := by
  intro pins s σ H Q I h
  exact isTrue_not (ha pins s σ H (fun c H1 => Q (!c) H1) I h)
def tAndV (ta tb : TE) : TE := fun σ H Q => ta σ H fun x H1 => ∃ c, x = .bl c /\ if c = true then tb σ H1 Q else Q (.bl false) H1
def tNotV (ta : TE) : TE := fun σ H Q => ta σ H fun x H1 => ∃ c, x = .bl c /\ Q (.bl (!c)) H1
theorem pe_one {op} {t : TE} (h : PE X a t) : PE X (.BoolOp op [a] pos) t := fun pins s σ H Q I hw => BoolOp_one (h pins s σ H Q I hw)
theorem pe_and (ha : PE X a ta) (hb : PE X (.BoolOp .And (b :: rest) pos) tb) : PE X (.BoolOp .And (a :: b :: rest) pos) (tAndV ta tb) := by
  intro pins s σ H Q I h
  refine BoolOp_and (thn (ha pins s σ H _ I h) fun v s1 ⟨x, H1, I1, r1, q1⟩ => ?_)
  obtain ⟨c, rfl, q1⟩ := q1
  cases r1
  refine wpAny_truthy_bool ?_
  cases c with
  | true => exact hb pins s1 σ H1 Q I1 q1
  | false => exact ⟨.bl false, H1, I1, rfl, q1⟩
theorem pe_not (ha : PE X a ta) : PE X (.UnaryOp .Not a pos) (tNotV ta) := by
  intro pins s σ H Q I h
  refine UnaryOp_ (thn (ha pins s σ H _ I h) fun v s1 ⟨x, H1, I1, r1, q1⟩ => ?_)
  obtain ⟨c, rfl, q1⟩ := q1
  cases r1
  exact not_of (wpAny_truthy_bool ⟨.bl (!c), H1, I1, rfl, q1⟩)
def tIf (t : TT) (ta tb : TE) : TE := fun σ H Q => t σ H fun c H1 => if c = true then ta σ H1 Q else tb σ H1 Q
theorem pe_ifExp {c : Expr} (hc : PT X c tA) (ha : PE X a ta) (hb : PE X b tb) : PE X (.IfExp c a b pos) (tIf tA ta tb) := by
  intro pins s σ H Q I h
  refine wpAny_IfExp (thn (hc pins s σ H _ I h) fun d s1 ⟨H1, I1, q1⟩ => ?_)
  cases d with
  | true => exact ha pins s1 σ H1 Q I1 q1
  | false => exact hb pins s1 σ H1 Q I1 q1
end
def SqL (K : PySem.W.Frag) (H : Hp) (a : Addr) (xs : List V) : Prop :=
  Rd H a (.lst xs) \/
    ∃ (o : Obj) (its : Array Value) (n : Nat), K.lookup a = some o /\ o.cls = .type "list" /\ o.dict = none /\ o.data = .seq its n /\ its.size <= sizeLine /\ Vals xs its.toList
def SqT (K : PySem.W.Frag) (H : Hp) (a : Addr) (xs : List V) : Prop :=
  Rd H a (.tup xs) \/
    ∃ (o : Obj) (its : Array Value) (n : Nat), K.lookup a = some o /\ o.cls = .type "tuple" /\ o.data = .seq its n /\ its.size <= sizeLine /\ Vals xs its.toList
def absV : Value -> Option V
  | .none => some .non
  | .bool b => some (.bl b)
  | .int i _ => some (.int i)
  | .str x _ => some (.str x)
  | .bytes b _ => some (.byt b)
  | .float b _ => some (.flt b)
  | .ref a => some (.ref a)
  | .type n => some (.ty n)
  | _ => none
theorem RelV.abs {x : V} {u : Value} (r : RelV x u) : absV u = some x := by
  cases x with
  | non => cases r; rfl
  | bl _ => cases r; rfl
  | int _ => obtain ⟨t, rfl⟩ := r; rfl
  | str _ => obtain ⟨t, rfl⟩ := r; rfl
  | byt _ => obtain ⟨t, rfl⟩ := r; rfl
  | flt _ => obtain ⟨t, rfl⟩ := r; rfl
  | ref _ => cases r; rfl
  | ty _ => cases r; rfl
theorem RelV.inj {x y : V} {u : Value} (r : RelV x u) (q : RelV y u) : x = y := Option.some.inj (r.abs.symm.trans q.abs)
theorem Vals.inj : ∀ {xs ys : List V} {us : List Value}, Vals xs us -> Vals ys us -> xs = ys
  | _, _, _, .nil, .nil => rfl
  | _, _, _, .cons r t, .cons r' t' => by rw [r.inj r', Vals.inj t t']
section
variable {X : Cx} {pins : List (Addr × Obj)} {σ : St} {H : Hp} {s : Shared} {a : Addr} {xs ys : List V}
theorem SqL.of {K : PySem.W.Frag} (h : H a = some (.lst xs)) : SqL K H a xs := .inl (.inl h)
theorem SqT.of {K : PySem.W.Frag} (h : H a = some (.tup xs)) : SqT K H a xs := .inl (.inl h)
theorem Inv.list (I : Inv X pins σ H s) (h : SqL X.K H a xs) : ∃ its : List Value, Vals xs its /\ PlainL s.heap a its.toArray /\ xs.length <= sizeLine := by
  rcases h with h | ⟨o, its, n, hk, hc, hd, hs, hz, r⟩
  · obtain ⟨z, its, n, r, e⟩ := h.ok I.hok
    exact ⟨its, r, ⟨_, n, e, rfl, rfl, rfl⟩, z⟩
  · refine ⟨its.toList, r, ⟨o, n, I.kIn a o hk, hc, hd, by simpa using hs⟩, ?_⟩
    have e := r.length
    simp only [Array.length_toList] at e
    lia
theorem Inv.tuple (I : Inv X pins σ H s) (h : SqT X.K H a xs) : ∃ its : List Value, Vals xs its /\ IsTup s.heap a its.toArray /\ xs.length <= sizeLine := by
  rcases h with h | ⟨o, its, n, hk, hc, hs, hz, r⟩
  · obtain ⟨z, its, r, p⟩ := h.ok I.hok
    exact ⟨its, r, p, z⟩
  · refine ⟨its.toList, r, ⟨o, I.kIn a o hk, hc, n, by simpa using hs⟩, ?_⟩
    have e := r.length
    simp only [Array.length_toList] at e
    lia
theorem Inv.list_inj (I : Inv X pins σ H s) (h : SqL X.K H a xs) (h' : SqL X.K H a ys) : xs = ys := by
  obtain ⟨its, r, ⟨o, n, e, _, _, d⟩, _⟩ := I.list h
  obtain ⟨its', r', ⟨o', n', e', _, _, d'⟩, _⟩ := I.list h'
  rw [e] at e'; cases e'
  rw [d] at d'
  injection d' with d1 _
  have : its = its' := by simpa using congrArg Array.toList d1
  subst this
  exact r.inj r'
theorem Inv.tuple_inj (I : Inv X pins σ H s) (h : SqT X.K H a xs) (h' : SqT X.K H a ys) : xs = ys := by
  obtain ⟨its, r, ⟨o, e, _, n, d⟩, _⟩ := I.tuple h
  obtain ⟨its', r', ⟨o', e', _, n', d'⟩, _⟩ := I.tuple h'
  rw [e] at e'; cases e'
  rw [d] at d'
  injection d' with d1 _
  have : its = its' := by simpa using congrArg Array.toList d1
  subst this
  exact r.inj r'
end
abbrev Cx.wish (X : Cx) (E : Value -> Shared -> Prop) : Cx := { X with xe := E }
abbrev Cx.nox (X : Cx) : Cx := X.wish fun _ _ => False
theorem Cx.Ok.wish {X : Cx} (ok : X.Ok) (E : Value -> Shared -> Prop) : (X.wish E).Ok :=
  ⟨ok.mod, ok.kind, ok.glob, ok.blt, ok.above, ok.inj, ok.has, ok.cab, ok.hd, ok.frames, ok.stk, ok.exf, ok.bs, ok.bsz, ok.noex, ok.exfs, ok.funs, ok.frf⟩
theorem Cx.Ok.unwish {X : Cx} {E : Value -> Shared -> Prop} (ok : (X.wish E).Ok) : X.Ok :=
  ⟨ok.mod, ok.kind, ok.glob, ok.blt, ok.above, ok.inj, ok.has, ok.cab, ok.hd, ok.frames, ok.stk, ok.exf, ok.bs, ok.bsz, ok.noex, ok.exfs, ok.funs, ok.frf⟩
section
variable {X : Cx} {pins : List (Addr × Obj)} {σ : St} {H : Hp} {s : Shared} {E : Value -> Shared -> Prop}
theorem Inv.wish (I : Inv X pins σ H s) (E : Value -> Shared -> Prop) : Inv (X.wish E) pins σ H s := ⟨I.ok.wish E, I.os, I.bare, I.base, I.loc, I.cell, I.free, I.freeC, I.pin, I.hok, I.len⟩
theorem Inv.unwish (I : Inv (X.wish E) pins σ H s) : Inv X pins σ H s := ⟨I.ok.unwish, I.os, I.bare, I.base, I.loc, I.cell, I.free, I.freeC, I.pin, I.hok, I.len⟩
theorem SP.unwish {D : Ends} {f : Flow} {s' : Shared} (h : SP (X.wish E) pins D f s') : SP X pins D f s' := by
  cases f with
  | next => obtain ⟨σ', H', I, q⟩ := h; exact ⟨σ', H', I.unwish, q⟩
  | brk => obtain ⟨σ', H', I, q⟩ := h; exact ⟨σ', H', I.unwish, q⟩
  | cont => obtain ⟨σ', H', I, q⟩ := h; exact ⟨σ', H', I.unwish, q⟩
  | ret u => obtain ⟨v, σ', H', I, r, q⟩ := h; exact ⟨v, σ', H', I.unwish, r, q⟩
theorem PSs.nox {st : List Stmt} {t : TS} (h : PSs X.nox st t) : PSs X st t := fun pins s σ H D I hw =>
  wpAny_mono (h pins s σ H D (I.wish _) hw) (fun _ _ q => q.unwish) fun _ _ z => False.elim z
end
section
variable {X : Cx} {st : Stmt} {rest : List Stmt} {t u : TS} {e : Expr} {te : TE} {pos : Pos}
def tNext : TS := fun D σ H => D.nx σ H
def tSeq (t u : TS) : TS := fun D σ H => t { D with nx := u D } σ H
theorem pss_nil : PSs X [] tNext := fun _ _ σ H _ I h => wpAny_execs_nil ⟨σ, H, I, h⟩
theorem pss_cons (h1 : PS X st t) (h2 : PSs X rest u) : PSs X (st :: rest) (tSeq t u) := by
  intro pins s σ H D I h
  refine wpAny_execs_cons (thn (h1 pins s σ H { D with nx := u D } I h) fun f s1 q => ?_)
  cases f with
  | next =>
    obtain ⟨σ', H', I', q⟩ := q
    exact h2 pins s1 σ' H' D I' q
  | ret v => exact q
  | brk => exact q
  | cont => exact q
theorem pss_one (h1 : PS X st t) : PSs X [st] t := by
  intro pins s σ H D I h
  refine wpAny_execs_cons (thn (h1 pins s σ H D I h) fun f s1 q => ?_)
  cases f with
  | next => exact wpAny_execs_nil q
  | ret v => exact q
  | brk => exact q
  | cont => exact q
theorem Inv.quiet {pins : List (Addr × Obj)} {σ : St} {H : Hp} {s : Shared} (I : Inv X pins σ H s) : interactive X.env = false := by simp [interactive, I.ok.kind]
def tDrop (te : TE) : TS := fun D σ H => te σ H fun _ H1 => D.nx σ H1
theorem ps_expr (he : PE X e te) (hs : swapsWith e none pos.line X.env = pure false := by rfl) : PS X (.Expr e pos) (tDrop te) := by
  intro pins s σ H D I h
  exact wpAny_Expr_any (thn (he pins s σ H _ I h) fun v s1 ⟨x, H1, I1, r1, q1⟩ => ⟨σ, H1, I1, q1⟩) I.quiet hs
def tRet (te : TE) : TS := fun D σ H => te σ H D.rt
theorem ps_ret (he : PE X e te) : PS X (.Return (some e) pos) (tRet te) := by
  intro pins s σ H D I h
  exact wpAny_Return_some (thn (he pins s σ H _ I h) fun v s1 ⟨x, H1, I1, r1, q1⟩ => ⟨x, σ, H1, I1, r1, q1⟩)
def tIfS (c : TT) (t u : TS) : TS := fun D σ H => c σ H fun b H1 => if b = true then t D σ H1 else u D σ H1
theorem ps_if {c : Expr} {a b : List Stmt} {tc : TT} (hc : PT X c tc) (ha : PSs X a t) (hb : PSs X b u) : PS X (.If c a b pos) (tIfS tc t u) := by
  intro pins s σ H D I h
  refine wpAny_If (thn (hc pins s σ H _ I h) fun d s1 ⟨H1, I1, q1⟩ => ?_)
  cases d with
  | true => exact ha pins s1 σ H1 D I1 q1
  | false => exact hb pins s1 σ H1 D I1 q1
def tNever : TS := fun _ _ _ => False
theorem pss_never {sts : List Stmt} : PSs X sts tNever := fun _ _ _ _ _ _ h => h.elim
end
abbrev TG := V -> St -> Hp -> (St -> Hp -> Prop) -> Prop
abbrev TGs := List V -> St -> Hp -> (St -> Hp -> Prop) -> Prop
def PG (X : Cx) (target : Expr) (t : TG) : Prop :=
  ∀ (pins : List (Addr × Obj)) (s : Shared) (σ : St) (H : Hp) (v : V) (u : Value) (Q : St -> Hp -> Prop), Inv X pins σ H s -> RelV v u -> t v σ H Q ->
    wpAny (model X.prog X.w) X.A (assign target X.env u) (fun _ s' => ∃ σ' H', Inv X pins σ' H' s' /\ Q σ' H') X.xe s
def PGs (X : Cx) (ts : List Expr) (t : TGs) : Prop :=
  ∀ (pins : List (Addr × Obj)) (s : Shared) (σ : St) (H : Hp) (vs : List V) (us : List Value) (Q : St -> Hp -> Prop), Inv X pins σ H s -> Vals vs us -> t vs σ H Q ->
    wpAny (model X.prog X.w) X.A (assignInOrder ((assignEach ts X.env).map (·.2)) us) (fun _ s' => ∃ σ' H', Inv X pins σ' H' s' /\ Q σ' H') X.xe s
section
variable {X : Cx} {pos : Pos}
def gName (i : Nat) : TG := fun v σ H Q => Q (σ.set i (some v)) H
theorem pg_name {i : Nat} {x : Str} (hN : X.N.Nodup) (hi : X.N[i]? = some x) (hx : Loc X.env.scope x) (hf : X.fn x = true \/ X.env.scope.names.lookup x = some .local := by first | exact .inl rfl | exact .inr rfl | assumption) : PG X (.Name x pos) (gName i) := by
  intro pins s σ H v u Q I r h
  exact wpAny_assign_Name (store_ok I hN hi hx r (fun s' I' => ⟨_, H, I', h⟩) hf)
def gNil : TGs := fun vs σ H Q => vs = [] /\ Q σ H
def gCons (t : TG) (u : TGs) : TGs := fun vs σ H Q => ∃ v r, vs = v :: r /\ t v σ H fun σ' H' => u r σ' H' Q
theorem pgs_nil : PGs X [] gNil := by
  intro pins s σ H vs us Q I r h
  obtain ⟨e, h⟩ := h
  subst e
  cases r
  exact assignInOrder_nil ⟨σ, H, I, h⟩
theorem pgs_cons {e : Expr} {es : List Expr} {t : TG} {u : TGs} (h1 : PG X e t) (h2 : PGs X es u)
    (hs : (assignEach (e :: es) X.env).map (·.2) = assign e X.env :: (assignEach es X.env).map (·.2) := by rfl) : PGs X (e :: es) (gCons t u) := by
  intro pins s σ H vs us Q I r h
  obtain ⟨v, vr, e1, h⟩ := h
  subst e1
  cases r with
  | cons r rr =>
    rw [hs]
    refine assignInOrder_cons (thn (h1 pins s σ H _ _ _ I r h) fun _ s1 ⟨σ1, H1, I1, q1⟩ => ?_)
    exact h2 pins s1 σ1 H1 _ _ Q I1 rr q1
def gTup (K : PySem.W.Frag) (n : Nat) (t : TGs) : TG := fun v σ H Q => ∃ a xs, v = .ref a /\ SqT K H a xs /\ xs.length = n /\ t xs σ H Q
theorem pg_tup {es : List Expr} {k : Nat} {t : TGs} {n : Nat} (hc : X.calm = true) (h : PGs X es t)
    (hn : (assignEach es X.env).length = n := by rfl) (hst : (assignEach es X.env).findIdx? (·.1) = none := by rfl) : PG X (.Tuple es k pos) (gTup X.K n t) := by
  intro pins s σ H v u Q I r hw
  obtain ⟨a, xs, e1, hq, hl, hw⟩ := hw
  subst e1
  cases r
  obtain ⟨its, rv, ht, hz⟩ := I.tuple hq
  refine assign_Tuple_tuple (I.ok.hd hc) ht (by simp [hn, <- hl, rv.length]) hst fun h' hx => ?_
  have I1 : Inv X pins σ H { s with heap := h' } := I.kept (t' := s.toks) fun b o e => hx b o (Nat.ne_of_lt (Heap.lt_size e)) e
  exact h pins _ σ H xs _ Q I1 (by simpa using rv) hw
def tAsg (te : TE) (g : TG) : TS := fun D σ H => te σ H fun x H1 => g x σ H1 D.nx
theorem ps_asg {tg e : Expr} {te : TE} {g : TG} (he : PE X e te) (hg : PG X tg g) (hs : swapsWithSole [tg] e pos.line X.env = pure false := by rfl) (hw : swappedStores [tg] e X.env = pure none := by rfl)
    (h1 : (assignEach [tg] X.env).map (·.2) = [assign tg X.env] := by rfl) : PS X (.Assign [tg] e pos) (tAsg te g) := by
  intro pins s σ H D I h
  refine wpAny_Assign_stores (thn (he pins s σ H _ I h) fun v s1 ⟨x, H1, I1, r1, q1⟩ => ?_) hs hw
  rw [h1]
  exact thn (hg pins s1 σ H1 x v _ I1 r1 q1) fun _ s2 q => q
theorem ps_set {i : Nat} {x : Str} {e : Expr} {te : TE} {pos' : Pos} (hN : X.N.Nodup) (hi : X.N[i]? = some x) (hx : Loc X.env.scope x) (he : PE X e te) (hs : swapsWith e (some (.Name x pos')) pos.line X.env = pure false := by rfl) (hf : X.fn x = true \/ X.env.scope.names.lookup x = some .local := by first | exact .inl rfl | exact .inr rfl | assumption) :
    PS X (.Assign [.Name x pos'] e pos) (tAsg te (gName i)) := by
  intro pins s σ H D I h
  refine wpAny_Assign_Name (thn (he pins s σ H _ I h) fun v s1 ⟨y, H1, I1, r1, q1⟩ => ?_) hs
  exact store_ok I1 hN hi hx r1 (fun s2 I2 => ⟨_, H1, I2, q1⟩) hf
def tWhile (c : TT) (tb : TS) : TS := fun D σ H => ∃ W : Nat -> St -> Hp -> Prop, (∃ m, W m σ H) /\ ∀ m σ H, W m σ H ->
  c σ H fun b H1 => if b = true then ∃ N : St -> Hp -> Prop, (∀ σ' H', N σ' H' -> ∃ m', m' < m /\ W m' σ' H') /\ tb { D with nx := N, ct := N, bk := D.nx } σ H1 else D.nx σ H1
theorem ps_while {c : Expr} {body : List Stmt} {tc : TT} {tb : TS} (hp : PassesOwn (model X.prog X.w) X.A X.env X.xe) (hc : PT X c tc) (hb : PSs X body tb) : PS X (.While c body [] pos) (tWhile tc tb) := by
  intro pins s σ H D I h
  obtain ⟨W, ⟨m0, w0⟩, turn⟩ := h
  refine wpAny_While (codeAny_whileLoop (fun n s' => ∃ σ' H', Inv X pins σ' H' s' /\ W n σ' H') ?_ m0 ⟨σ, H, I, w0⟩)
  rintro n s1 ⟨σ1, H1, I1, w1⟩
  refine wpAny_passesOwn hp (thn (hc pins s1 σ1 H1 _ I1 (turn n σ1 H1 w1)) fun b s2 ⟨H2, I2, q2⟩ => ?_)
  cases b with
  | true =>
    obtain ⟨N, hN, q2⟩ := q2
    rw [if_pos rfl]
    refine wpAny_passesOwn hp (thn (hb pins s2 σ1 H2 _ I2 q2) fun f s3 q3 => ?_)
    cases f with
    | next =>
      obtain ⟨σ3, H3, I3, n3⟩ := q3
      obtain ⟨m', hm, w3⟩ := hN σ3 H3 n3
      exact ⟨m', hm, σ3, H3, I3, w3⟩
    | cont =>
      obtain ⟨σ3, H3, I3, n3⟩ := q3
      obtain ⟨m', hm, w3⟩ := hN σ3 H3 n3
      exact ⟨m', hm, σ3, H3, I3, w3⟩
    | brk => exact q3
    | ret v => exact q3
  | false =>
    rw [if_neg Bool.false_ne_true]
    exact wpAny_execs_nil ⟨σ1, H2, I2, q2⟩
end
structure It where
  go : Nat -> Hp -> Prop
  yld : Nat -> Hp -> V -> Hp -> Prop
  stop : Nat -> Hp -> Prop
def FpOk (X : Cx) (pins : List (Addr × Obj)) (H : Hp) (b : Addr) : Prop :=
  H b = none /\ b ≠ X.env.locals /\ b ∉ X.fs /\ (b ∈ X.ex \/ X.s₀.heap.objs.size <= b) /\ (∀ x c, X.env.cells.lookup x = some c -> c ≠ b) /\ ∀ p ∈ X.pn ++ pins, p.1 ≠ b
theorem Inv.fpOk {X : Cx} {pins : List (Addr × Obj)} {σ : St} {H H' : Hp} {s : Shared} {b : Addr} (I : Inv X pins σ H s) (hb : s.heap.objs.size <= b) (hn : H' b = none) : FpOk X pins H' b := by
  refine ⟨hn, Nat.ne_of_gt (Nat.lt_of_lt_of_le I.lt hb), I.nofs hb, .inr (Nat.le_trans I.sz hb), fun x c e z => ?_, fun p hp z => ?_⟩
  · obtain ⟨v, q⟩ := I.cell x c e
    exact absurd (Nat.lt_of_lt_of_le q.lt (by rw [z]; exact hb)) (Nat.lt_irrefl _)
  · exact absurd (Nat.lt_of_lt_of_le (Heap.lt_size (I.pin p hp).1) (by rw [z]; exact hb)) (Nat.lt_irrefl _)
structure Turn (P : Program) (w : World) (K : PySem.W.Frag) (tg : Expr) (J : It) (fp : List Addr) (it : Addr) (tn : Nat -> Heap -> Prop) : Prop where
  mem : it ∈ fp
  obj : ∀ i h, tn i h -> ∀ b ∈ fp, ∃ o, h.get? b = some o /\ ∀ v, o.data ≠ .cell v
  keep : ∀ i h h', tn i h -> (∀ b ∈ fp, ∀ o, h.get? b = some o -> h'.get? b = some o) -> tn i h'
  item : ∀ (X : Cx), X.prog = P -> X.w = w -> X.K = K -> X.calm = true -> ∀ (i : Nat) (pins : List (Addr × Obj)) (s : Shared) (σ : St) (H : Hp) (E : Value -> Shared -> Prop), Inv X pins σ H s -> (∀ b ∈ fp, FpOk X pins H b) -> tn i s.heap -> J.go i H ->
    wpAny (model P w) X.A (pyNext (.ref it)) (fun r s1 => ∃ u, r = some u /\
      wpAny (model P w) X.A (letOwnedTupleGo tg (.ref it) u) (fun _ s2 => ∃ x H', Inv X pins σ H' s2 /\ RelV x u /\ J.yld i H x H' /\ tn (i + 1) s2.heap /\ ∀ b ∈ fp, H' b = none) E s1) E s
  done : ∀ (X : Cx), X.prog = P -> X.w = w -> X.K = K -> X.calm = true -> ∀ (i : Nat) (pins : List (Addr × Obj)) (s : Shared) (σ : St) (H : Hp) (E : Value -> Shared -> Prop), Inv X pins σ H s -> (∀ b ∈ fp, FpOk X pins H b) -> tn i s.heap -> J.stop i H ->
    wpAny (model P w) X.A (pyNext (.ref it)) (fun r s1 => r = none /\ Inv X pins σ H s1) E s
  self : ∀ (A : Around) (i : Nat) (s : Shared) (Q : Value -> Shared -> Prop) (E : Value -> Shared -> Prop), tn i s.heap -> Q (.ref it) s -> wpAny (model P w) A (pyIter (.ref it)) Q E s
abbrev TI := St -> Hp -> (It -> Hp -> Prop) -> Prop
def PIE (X : Cx) (pins : List (Addr × Obj)) (σ : St) (tg : Expr) (R : It -> Hp -> Prop) (itv : Value) (s2 : Shared) : Prop :=
  ∃ (it : Addr) (fp : List Addr) (tn : Nat -> Heap -> Prop) (J : It) (H' : Hp), itv = .ref it /\ Inv X pins σ H' s2 /\ Turn X.prog X.w X.K tg J fp it tn /\ tn 0 s2.heap /\ (∀ b ∈ fp, FpOk X pins H' b) /\ R J H'
def PI (X : Cx) (tg iter : Expr) (wi : TI) : Prop :=
  ∀ (pins : List (Addr × Obj)) (s : Shared) (σ : St) (H : Hp) (R : It -> Hp -> Prop), Inv X pins σ H s -> wi σ H R ->
    wpAny (model X.prog X.w) X.A (eval iter X.env) (fun v s1 => wpAny (model X.prog X.w) X.A (pyIter v) (PIE X pins σ tg R) X.xe s1) X.xe s
theorem go_of {M : Model} {A : Around} {E : Value -> Shared -> Prop} {s : Shared} {tg : Expr} {it : Addr} {u : Value} {o : Obj} {n : String} {vs : Array Value} {Q : Unit -> Shared -> Prop} (ho : s.heap.get? it = some o) (hc : o.cls = .type n) (hd : o.data = .fields vs)
    (hn : ["enumerate", "zip", "dict_itemiterator", "dict_reverseitemiterator", "odict_iterator", "itertools.zip_longest", "itertools.pairwise"].contains n = false) (hQ : Q () s) : wpAny M A (letOwnedTupleGo tg (.ref it) u) Q E s := by
  unfold letOwnedTupleGo
  cases tg <;> first
    | exact wpAny_pure hQ
    | (cases u <;> first
        | exact wpAny_pure hQ
        | (refine wpAny_bind (wpAny_load ho ?_)
           rw [hc, hd]
           show wpAny M A (if (["enumerate", "zip", "dict_itemiterator", "dict_reverseitemiterator", "odict_iterator", "itertools.zip_longest", "itertools.pairwise"].contains n && vs[0]? == some (rawInt _)) = true then _ else _) Q E s
           rw [if_neg (by intro h; rw [hn, Bool.false_and] at h; cases h)]
           exact wpAny_pure hQ))
def Itl (K : PySem.W.Frag) (a : Addr) : It :=
  ⟨fun i H => ∃ xs x, SqL K H a xs /\ xs[i]? = some x, fun i H x H' => H' = H /\ ∀ xs, SqL K H a xs -> xs[i]? = some x, fun i H => ∃ xs, SqL K H a xs /\ xs.length <= i⟩
def Itt (K : PySem.W.Frag) (a : Addr) : It :=
  ⟨fun i H => ∃ xs x, SqT K H a xs /\ xs[i]? = some x, fun i H x H' => H' = H /\ ∀ xs, SqT K H a xs -> xs[i]? = some x, fun i H => ∃ xs, SqT K H a xs /\ xs.length <= i⟩
def Itr (lo : Int) (n : Nat) : It := ⟨fun i _ => i < n, fun i H x H' => H' = H /\ x = .int (lo + i), fun i _ => n <= i⟩
theorem turn_list {P : Program} {w : World} {K : PySem.W.Frag} {tg : Expr} (a it : Addr) : Turn P w K tg (Itl K a) [it] it (fun i h => h.IsListIter it a i) where
  mem := by simp
  obj := fun i h st b hb => by
    have e : b = it := by simpa using hb
    subst e
    obtain ⟨o, e, c, d⟩ := st
    exact ⟨o, e, fun v z => by rw [d] at z; cases z⟩
  keep := fun i h h' st k => st.at fun o e => k it (by simp) o e
  item := by
    intro X hP hw hK hc i pins s σ H E I hf st hg
    subst hP hw hK
    obtain ⟨xs, x, hq, hx⟩ := hg
    obtain ⟨its, rv, p, hz⟩ := I.list hq
    obtain ⟨u, hu, ru⟩ := rv.get hx
    obtain ⟨f0, f1, f2, f3, f4, f5⟩ := hf it (by simp)
    refine wpAny_pyNext_list_item st p.isList (x := u) (by simpa using hu) fun h' st' sb => ?_
    have I1 : Inv X pins σ H { s with heap := h' } := I.turned (t' := s.toks) (fun b o hb e => (sb.2 b hb).trans e) f0 f1 f3 f4 f5
    obtain ⟨o, e, c, d⟩ := id st'
    exact ⟨u, rfl, go_of (s := { s with heap := h' }) e c d (by decide) ⟨x, H, I1, ru, ⟨rfl, fun ys hy => by rw [I.list_inj hy hq]; exact hx⟩, st', fun b hb => (hf b hb).1⟩⟩
  done := by
    intro X hP hw hK hc i pins s σ H E I hf st hg
    subst hP hw hK
    obtain ⟨xs, hq, hx⟩ := hg
    obtain ⟨its, rv, p, hz⟩ := I.list hq
    obtain ⟨f0, f1, f2, f3, f4, f5⟩ := hf it (by simp)
    have hl := rv.length
    exact wpAny_pyNext_list_end (I.ok.hd hc) st p.isList (by simp; lia) fun h' eb => ⟨rfl, I.turned (t' := s.toks) (fun b o hb e => eb b o hb e) f0 f1 f3 f4 f5⟩
  self := fun _ _ _ _ _ st h => wpAny_pyIter_listiter st h
theorem turn_tuple {P : Program} {w : World} {K : PySem.W.Frag} {tg : Expr} (a it : Addr) : Turn P w K tg (Itt K a) [it] it (fun i h => h.IsTupleIter it a i) where
  mem := by simp
  obj := fun i h st b hb => by
    have e : b = it := by simpa using hb
    subst e
    obtain ⟨o, e, c, d⟩ := st
    exact ⟨o, e, fun v z => by rw [d] at z; cases z⟩
  keep := fun i h h' st k => st.at fun o e => k it (by simp) o e
  item := by
    intro X hP hw hK hc i pins s σ H E I hf st hg
    subst hP hw hK
    obtain ⟨xs, x, hq, hx⟩ := hg
    obtain ⟨its, rv, p, hz⟩ := I.tuple hq
    obtain ⟨u, hu, ru⟩ := rv.get hx
    obtain ⟨f0, f1, f2, f3, f4, f5⟩ := hf it (by simp)
    refine wpAny_pyNext_tuple_item st (show s.heap.IsTuple a its.toArray from p) (x := u) (by simpa using hu) fun h' st' sb => ?_
    have I1 : Inv X pins σ H { s with heap := h' } := I.turned (t' := s.toks) (fun b o hb e => (sb.2 b hb).trans e) f0 f1 f3 f4 f5
    obtain ⟨o, e, c, d⟩ := id st'
    exact ⟨u, rfl, go_of (s := { s with heap := h' }) e c d (by decide) ⟨x, H, I1, ru, ⟨rfl, fun ys hy => by rw [I.tuple_inj hy hq]; exact hx⟩, st', fun b hb => (hf b hb).1⟩⟩
  done := by
    intro X hP hw hK hc i pins s σ H E I hf st hg
    subst hP hw hK
    obtain ⟨xs, hq, hx⟩ := hg
    obtain ⟨its, rv, p, hz⟩ := I.tuple hq
    obtain ⟨f0, f1, f2, f3, f4, f5⟩ := hf it (by simp)
    have hl := rv.length
    exact wpAny_pyNext_tuple_end (I.ok.hd hc) st (show s.heap.IsTuple a its.toArray from p) (by simp; lia) fun h' eb => ⟨rfl, I.turned (t' := s.toks) (fun b o hb e => eb b o hb e) f0 f1 f3 f4 f5⟩
  self := fun _ _ _ _ _ st h => wpAny_pyIter_tupleiter st h
theorem turn_range {P : Program} {w : World} {K : PySem.W.Frag} {tg : Expr} (it : Addr) (lo : Int) (n : Nat) : Turn P w K tg (Itr lo n) [it] it (fun i h => IsRangeIter h it (lo + (i : Nat) * 1) ((n : Int) - (i : Nat)) 1) where
  mem := by simp
  obj := fun i h st b hb => by
    have e : b = it := by simpa using hb
    subst e
    exact ⟨_, st, fun v z => by
      have z' : Data.fields _ = Data.cell v := z
      cases z'⟩
  keep := fun i h h' st k => k it (by simp) _ st
  item := by
    intro X hP hw hK hc i pins s σ H E I hf st hg
    subst hP hw hK
    obtain ⟨f0, f1, f2, f3, f4, f5⟩ := hf it (by simp)
    have W := Walks.range (prog := X.prog) (w := X.w) (I.ok.hd hc) it lo 1 n
    refine W.item i s _ _ hg st fun v h' tk hv st' kk => ?_
    obtain ⟨t, rfl⟩ := hv
    have I1 : Inv X pins σ H { s with heap := h', toks := tk } := I.turned (fun b o hb e => kk b o (by simpa using hb) e) f0 f1 f3 f4 f5
    refine ⟨_, rfl, go_of (s := { s with heap := h', toks := tk }) (n := "range_iterator") st' rfl rfl (by decide) ⟨.int (lo + i), H, I1, ⟨t, ?_⟩, ⟨rfl, rfl⟩, st', fun b hb => (hf b hb).1⟩⟩
    rw [Int.mul_one]
  done := by
    intro X hP hw hK hc i pins s σ H E I hf st hg
    subst hP hw hK
    obtain ⟨f0, f1, f2, f3, f4, f5⟩ := hf it (by simp)
    exact wpAny_pyNext_range_end (I.ok.hd hc) st (by have : n <= i := hg; lia) fun h' eb => ⟨rfl, I.turned (t' := s.toks) (fun b o hb e => eb b o hb e) f0 f1 f3 f4 f5⟩
  self := fun _ _ _ _ _ st h => wpAny_pyIter_rangeiter st h
section
variable {X : Cx} {tg : Expr}
def iList (K : PySem.W.Frag) (tl : TE) : TI := fun σ H R => tl σ H fun x H1 => ∃ a, x = .ref a /\ (∃ xs, SqL K H1 a xs) /\ R (Itl K a) H1
def iTup (K : PySem.W.Frag) (tl : TE) : TI := fun σ H R => tl σ H fun x H1 => ∃ a, x = .ref a /\ (∃ xs, SqT K H1 a xs) /\ R (Itt K a) H1
theorem pi_list {l : Expr} {tl : TE} (hl : PE X l tl) : PI X tg l (iList X.K tl) := by
  intro pins s σ H R I h
  refine thn (hl pins s σ H _ I h) fun v s1 ⟨x, H1, I1, r1, q1⟩ => ?_
  obtain ⟨a, e, ⟨xs, hq⟩, q⟩ := q1
  subst e
  cases r1
  obtain ⟨its, rv, p, hz⟩ := I1.list hq
  refine wpAny_pyIter_list p.isList ?_
  refine ⟨s1.heap.objs.size, [s1.heap.objs.size], _, _, H1, rfl, I1.kept (t' := s1.toks) fun b o e => Heap.get?_push_of_some _ e, turn_list a _, ⟨_, Heap.get?_push_size _ rfl, rfl, rfl⟩, fun b hb => ?_, q⟩
  have e : b = s1.heap.objs.size := by simpa using hb
  subst e
  exact I1.fpOk (Nat.le_refl _) (I1.hok.fresh (Nat.le_refl _))
theorem pi_tup {l : Expr} {tl : TE} (hl : PE X l tl) : PI X tg l (iTup X.K tl) := by
  intro pins s σ H R I h
  refine thn (hl pins s σ H _ I h) fun v s1 ⟨x, H1, I1, r1, q1⟩ => ?_
  obtain ⟨a, e, ⟨xs, hq⟩, q⟩ := q1
  subst e
  cases r1
  obtain ⟨its, rv, p, hz⟩ := I1.tuple hq
  refine wpAny_pyIter_tuple (show s1.heap.IsTuple a its.toArray from p) ?_
  refine ⟨s1.heap.objs.size, [s1.heap.objs.size], _, _, H1, rfl, I1.kept (t' := s1.toks) fun b o e => Heap.get?_push_of_some _ e, turn_tuple a _, ⟨_, Heap.get?_push_size _ rfl, rfl, rfl⟩, fun b hb => ?_, q⟩
  have e : b = s1.heap.objs.size := by simpa using hb
  subst e
  exact I1.fpOk (Nat.le_refl _) (I1.hok.fresh (Nat.le_refl _))
theorem range_it {pins : List (Addr × Obj)} {σ : St} {H : Hp} {s : Shared} {R : It -> Hp -> Prop} {E : Value -> Shared -> Prop} {lo hi : Int} {t u v : Tok} {tk : Nat} (I : Inv X pins σ H s) (h1 : -(2 ^ 62) <= lo) (h2 : lo < 2 ^ 62) (h3 : -(2 ^ 62) <= hi) (h4 : hi < 2 ^ 62)
    (q : R (Itr lo (hi - lo).toNat) H) : wpAny (model X.prog X.w) X.A (pyIter (.ref s.heap.objs.size)) (PIE X pins σ tg R) E { s with heap := s.heap.push { cls := .type "range", data := .fields #[.int lo t, .int hi u, .int 1 v] }, toks := tk } := by
  refine wpAny_pyIter_range (IsRange.new ..) (small_one h1 h2 h3 h4) ?_
  have I1 : Inv X pins σ H { s with heap := s.heap.push { cls := .type "range", data := .fields #[.int lo t, .int hi u, .int 1 v] }, toks := tk } := I.kept fun b o e => Heap.get?_push_of_some _ e
  refine ⟨(s.heap.push { cls := .type "range", data := .fields #[.int lo t, .int hi u, .int 1 v] }).objs.size, [(s.heap.push { cls := .type "range", data := .fields #[.int lo t, .int hi u, .int 1 v] }).objs.size], _, _, H, rfl,
    I1.kept (t' := tk) fun b o e => Heap.get?_push_of_some _ e, turn_range _ lo (hi - lo).toNat, ?_, fun b hb => ?_, q⟩
  · have e1 : lo + ((0 : Nat) : Int) * 1 = lo := by simp
    have e2 : (((hi - lo).toNat : Nat) : Int) - ((0 : Nat) : Int) = Builtin.Range.rangeSize lo hi 1 := by rw [rangeSize_one]; split <;> lia
    show IsRangeIter _ _ (lo + ((0 : Nat) : Int) * 1) ((((hi - lo).toNat : Nat) : Int) - ((0 : Nat) : Int)) 1
    rw [e1, e2]
    exact Heap.get?_push_size _ rfl
  · have e : b = (s.heap.push { cls := .type "range", data := .fields #[.int lo t, .int hi u, .int 1 v] }).objs.size := by simpa using hb
    subst e
    exact I1.fpOk (Nat.le_refl _) (I1.hok.fresh (Nat.le_refl _))
def iRng1 (ta : TA) : TI := fun σ H R => ta σ H fun vs H1 => ∃ j : Int, vs = [.int j] /\ -(2 ^ 62) <= j /\ j < 2 ^ 62 /\ R (Itr 0 j.toNat) H1
def iRng2 (ta : TA) : TI := fun σ H R => ta σ H fun vs H1 => ∃ i j : Int, vs = [.int i, .int j] /\ (-(2 ^ 62) <= i /\ i < 2 ^ 62 /\ -(2 ^ 62) <= j /\ j < 2 ^ 62) /\ R (Itr i (j - i).toNat) H1
theorem pi_range1 {a : Expr} {ta : TA} {p pos : Pos} (hg : Gl X "range") (hm : X.mg "range" = none) (ha : PA X [a] ta) (hs : starEach [a] X.env = [(false, eval a X.env)] := by rfl) : PI X tg (.Call (.Name "range" p) [a] [] pos) (iRng1 ta) := by
  intro pins s σ H R I h
  refine Call_ (ld_blt I hg hm boot_range (PyProof.Rows.callWith_type1 (thn (ha pos pins s σ H _ I h) fun us s1 ⟨vs, H1, I1, r1, q1⟩ => ?_) hs rfl))
  obtain ⟨j, e, q1, q2, q⟩ := q1
  subst e
  cases r1 with
  | cons r rr =>
    cases rr
    obtain ⟨t, rfl⟩ := r
    exact call_range_1 (range_it I1 (by lia) (by lia) q1 q2 (by simpa using q))
theorem pi_range2 {a b : Expr} {ta : TA} {p pos : Pos} (hg : Gl X "range") (hm : X.mg "range" = none) (ha : PA X [a, b] ta) (hs : starEach [a, b] X.env = [(false, eval a X.env), (false, eval b X.env)] := by rfl) (hs2 : starEach [b] X.env = [(false, eval b X.env)] := by rfl) :
    PI X tg (.Call (.Name "range" p) [a, b] [] pos) (iRng2 ta) := by
  intro pins s σ H R I h
  refine Call_ (ld_blt I hg hm boot_range (PyProof.Rows.callWith_type1 (thn (ha pos pins s σ H _ I h) fun us s1 ⟨vs, H1, I1, r1, q1⟩ => ?_) (by rw [hs, hs2]) (by rw [hs2]; rfl)))
  obtain ⟨i, j, e, ⟨q1, q2, q3, q4⟩, q⟩ := q1
  subst e
  cases r1 with
  | cons r rr =>
    cases rr with
    | cons r' rr =>
      cases rr
      obtain ⟨t, rfl⟩ := r
      obtain ⟨t', rfl⟩ := r'
      exact call_range_2 (range_it I1 q1 q2 q3 q4 q)
def tFor (wi : TI) (g : TG) (tb : TS) : TS := fun D σ H => wi σ H fun J H1 => ∃ W : Nat -> Nat -> St -> Hp -> Prop, (∃ m, W 0 m σ H1) /\ ∀ i m σ H, W i m σ H ->
  (J.stop i H /\ D.nx σ H) \/ (J.go i H /\ ∃ N : St -> Hp -> Prop, (∀ σ' H', N σ' H' -> ∃ m', m' < m /\ W (i + 1) m' σ' H') /\ ∀ x H', J.yld i H x H' -> g x σ H' fun σ2 H2 => tb { D with nx := N, ct := N, bk := D.nx } σ2 H2)
def pinsAt (fp : List Addr) (h : Heap) : List (Addr × Obj) := fp.filterMap fun b => (h.get? b).map fun o => (b, o)
theorem mem_pinsAt {fp : List Addr} {h : Heap} {b : Addr} {o : Obj} (hb : b ∈ fp) (e : h.get? b = some o) : (b, o) ∈ pinsAt fp h := List.mem_filterMap.mpr ⟨b, hb, by rw [e]; rfl⟩
theorem of_pinsAt {fp : List Addr} {h : Heap} {p : Addr × Obj} (hp : p ∈ pinsAt fp h) : p.1 ∈ fp /\ h.get? p.1 = some p.2 := by
  obtain ⟨b, hb, e⟩ := List.mem_filterMap.mp hp
  cases q : h.get? b with
  | none => rw [q] at e; cases e
  | some o =>
    rw [q] at e
    have e' : (b, o) = p := Option.some.inj e
    subst e'
    exact ⟨hb, q⟩
theorem Inv.pinned {pins : List (Addr × Obj)} {σ : St} {H : Hp} {s : Shared} {fp : List Addr} (I : Inv X pins σ H s) (hf : ∀ b ∈ fp, FpOk X pins H b) (ho : ∀ b ∈ fp, ∃ o, s.heap.get? b = some o /\ ∀ v, o.data ≠ .cell v) : Inv X (pins ++ pinsAt fp s.heap) σ H s :=
  I.pins_of fun p hp => (List.mem_append.mp hp).elim (fun z => I.pin p (List.mem_append_right _ z)) fun z => by
    obtain ⟨hb, e⟩ := of_pinsAt z
    obtain ⟨f0, f1, f2, _⟩ := hf p.1 hb
    obtain ⟨o, e', d⟩ := ho p.1 hb
    rw [e] at e'; cases e'
    exact ⟨e, f0, f1, f2, d⟩
theorem Inv.unpinned {pins pl : List (Addr × Obj)} {σ : St} {H : Hp} {s : Shared} (I : Inv X (pins ++ pl) σ H s) : Inv X pins σ H s := I.pins_of fun p hp => I.pin p (List.mem_append_right _ (List.mem_append_left _ hp))
theorem ps_for {iter : Expr} {body : List Stmt} {wi : TI} {g : TG} {tb : TS} {pos : Pos} (hp : PassesOwn (model X.prog X.w) X.A X.env X.xe) (hc : X.calm = true) (hi : PI X tg iter wi) (hg : PG X tg g) (hb : PSs X body tb)
    (hs : ∀ x, foldedSetIterable iter X.env x = pure x := by intro _; rfl) : PS X (.For tg iter body [] pos) (tFor wi g tb) := by
  intro pins s σ H D I h
  refine wpAny_For (thn (hi pins s σ H _ I h) fun v s1 h1 => thn h1 fun itv s2 h2 => ?_) hs
  obtain ⟨it, fp, tn, J, H2, e, I2, T, st2, f2, W, ⟨m0, w0⟩, turn⟩ := h2
  subst e
  have stat : ∀ {H' : Hp}, (∀ b ∈ fp, H' b = none) -> ∀ b ∈ fp, FpOk X pins H' b := fun hn b hb => ⟨hn b hb, (f2 b hb).2⟩
  refine codeAny_forLoop_any (fun n s' => ∃ i σ' H', Inv X pins σ' H' s' /\ tn i s'.heap /\ (∀ b ∈ fp, H' b = none) /\ W i n σ' H') ?_ m0 ⟨0, σ, H2, I2, st2, fun b hb => (f2 b hb).1, w0⟩
  rintro n s3 ⟨i, σ3, H3, I3, st3, fr3, w3⟩
  rcases turn i n σ3 H3 w3 with ⟨stop, qn⟩ | ⟨go, N, hN, step⟩
  · refine wpAny_passesOwn hp (thn (T.done X rfl rfl rfl hc i pins s3 σ3 H3 X.xe I3 (stat fr3) st3 stop) fun r s4 ⟨hr, I4⟩ => ?_)
    subst hr
    exact wpAny_execs_nil ⟨σ3, H3, I4, qn⟩
  · refine wpAny_passesOwn hp (thn (T.item X rfl rfl rfl hc i pins s3 σ3 H3 X.xe I3 (stat fr3) st3 go) fun r s4 ⟨u, hr, h4⟩ => ?_)
    subst hr
    refine wpAny_passesOwn hp (thn h4 fun _ s5 ⟨x, H5, I5, r5, y5, st5, fr5⟩ => ?_)
    have I5' := I5.pinned (stat fr5) (T.obj _ _ st5)
    refine wpAny_passesOwn hp (thn (hg _ s5 σ3 H5 x u _ I5' r5 (step x H5 y5)) fun _ s6 ⟨σ6, H6, I6, q6⟩ => ?_)
    refine wpAny_passesOwn hp (thn (hb _ s6 σ6 H6 _ I6 q6) fun f s7 q7 => ?_)
    have again : ∀ {σ7 : St} {H7 : Hp}, Inv X (pins ++ pinsAt fp s5.heap) σ7 H7 s7 -> N σ7 H7 -> ∃ m, m < n /\ ∃ i σ' H', Inv X pins σ' H' s7 /\ tn i s7.heap /\ (∀ b ∈ fp, H' b = none) /\ W i m σ' H' := fun {σ7 H7} I7 n7 => by
      obtain ⟨m', hm, w7⟩ := hN σ7 H7 n7
      refine ⟨m', hm, i + 1, σ7, H7, I7.unpinned, T.keep _ _ _ st5 fun b hb o e => (I7.pin (b, o) (List.mem_append_right _ (List.mem_append_right _ (mem_pinsAt hb e)))).1, fun b hb => ?_, w7⟩
      obtain ⟨o, e, d⟩ := T.obj _ _ st5 b hb
      exact (I7.pin (b, o) (List.mem_append_right _ (List.mem_append_right _ (mem_pinsAt hb e)))).2.1
    cases f with
    | next => obtain ⟨σ7, H7, I7, n7⟩ := q7; exact again I7 n7
    | cont => obtain ⟨σ7, H7, I7, n7⟩ := q7; exact again I7 n7
    | brk => obtain ⟨σ7, H7, I7, q7⟩ := q7; exact ⟨σ7, H7, I7.unpinned, q7⟩
    | ret v => obtain ⟨x7, σ7, H7, I7, r7, q7⟩ := q7; exact ⟨x7, σ7, H7, I7.unpinned, r7, q7⟩
end
theorem for_list {K : PySem.W.Frag} {a : Addr} {xs : List V} {g : TG} {tb : TS} {D : Ends} {σ : St} {H : Hp} (Pv : Nat -> St -> Hp -> Prop) (h0 : Pv 0 σ H) (hl : ∀ i σ H, i <= xs.length -> Pv i σ H -> SqL K H a xs)
    (hs : ∀ i x σ H, xs[i]? = some x -> Pv i σ H -> g x σ H fun σ2 H2 => tb { D with nx := Pv (i + 1), ct := Pv (i + 1), bk := D.nx } σ2 H2) (hd : ∀ σ H, Pv xs.length σ H -> D.nx σ H) :
    ∃ W : Nat -> Nat -> St -> Hp -> Prop, (∃ m, W 0 m σ H) /\ ∀ i m σ H, W i m σ H ->
      ((Itl K a).stop i H /\ D.nx σ H) \/ ((Itl K a).go i H /\ ∃ N : St -> Hp -> Prop, (∀ σ' H', N σ' H' -> ∃ m', m' < m /\ W (i + 1) m' σ' H') /\ ∀ x H', (Itl K a).yld i H x H' -> g x σ H' fun σ2 H2 => tb { D with nx := N, ct := N, bk := D.nx } σ2 H2) := by
  refine ⟨fun i m σ H => m = xs.length - i /\ i <= xs.length /\ Pv i σ H, ⟨xs.length, by simp, Nat.zero_le _, h0⟩, ?_⟩
  rintro i m σ H ⟨rfl, hi, p⟩
  have q := hl i σ H hi p
  by_cases hlt : i < xs.length
  · refine .inr ⟨⟨xs, xs[i], q, by simp [hlt]⟩, Pv (i + 1), fun σ' H' p' => ⟨xs.length - (i + 1), by lia, rfl, hlt, p'⟩, fun x H' y => ?_⟩
    obtain ⟨e, y⟩ := y
    subst e
    exact hs i x σ _ (y xs q) p
  · have e : i = xs.length := by lia
    subst e
    exact .inl ⟨⟨xs, q, Nat.le_refl _⟩, hd σ H p⟩
theorem for_tup {K : PySem.W.Frag} {a : Addr} {xs : List V} {g : TG} {tb : TS} {D : Ends} {σ : St} {H : Hp} (Pv : Nat -> St -> Hp -> Prop) (h0 : Pv 0 σ H) (hl : ∀ i σ H, i <= xs.length -> Pv i σ H -> SqT K H a xs)
    (hs : ∀ i x σ H, xs[i]? = some x -> Pv i σ H -> g x σ H fun σ2 H2 => tb { D with nx := Pv (i + 1), ct := Pv (i + 1), bk := D.nx } σ2 H2) (hd : ∀ σ H, Pv xs.length σ H -> D.nx σ H) :
    ∃ W : Nat -> Nat -> St -> Hp -> Prop, (∃ m, W 0 m σ H) /\ ∀ i m σ H, W i m σ H ->
      ((Itt K a).stop i H /\ D.nx σ H) \/ ((Itt K a).go i H /\ ∃ N : St -> Hp -> Prop, (∀ σ' H', N σ' H' -> ∃ m', m' < m /\ W (i + 1) m' σ' H') /\ ∀ x H', (Itt K a).yld i H x H' -> g x σ H' fun σ2 H2 => tb { D with nx := N, ct := N, bk := D.nx } σ2 H2) := by
  refine ⟨fun i m σ H => m = xs.length - i /\ i <= xs.length /\ Pv i σ H, ⟨xs.length, by simp, Nat.zero_le _, h0⟩, ?_⟩
  rintro i m σ H ⟨rfl, hi, p⟩
  have q := hl i σ H hi p
  by_cases hlt : i < xs.length
  · refine .inr ⟨⟨xs, xs[i], q, by simp [hlt]⟩, Pv (i + 1), fun σ' H' p' => ⟨xs.length - (i + 1), by lia, rfl, hlt, p'⟩, fun x H' y => ?_⟩
    obtain ⟨e, y⟩ := y
    subst e
    exact hs i x σ _ (y xs q) p
  · have e : i = xs.length := by lia
    subst e
    exact .inl ⟨⟨xs, q, Nat.le_refl _⟩, hd σ H p⟩
theorem for_range {lo : Int} {n : Nat} {g : TG} {tb : TS} {D : Ends} {σ : St} {H : Hp} (Pv : Nat -> St -> Hp -> Prop) (h0 : Pv 0 σ H)
    (hs : ∀ i σ H, i < n -> Pv i σ H -> g (.int (lo + i)) σ H fun σ2 H2 => tb { D with nx := Pv (i + 1), ct := Pv (i + 1), bk := D.nx } σ2 H2) (hd : ∀ σ H, Pv n σ H -> D.nx σ H) :
    ∃ W : Nat -> Nat -> St -> Hp -> Prop, (∃ m, W 0 m σ H) /\ ∀ i m σ H, W i m σ H ->
      ((Itr lo n).stop i H /\ D.nx σ H) \/ ((Itr lo n).go i H /\ ∃ N : St -> Hp -> Prop, (∀ σ' H', N σ' H' -> ∃ m', m' < m /\ W (i + 1) m' σ' H') /\ ∀ x H', (Itr lo n).yld i H x H' -> g x σ H' fun σ2 H2 => tb { D with nx := N, ct := N, bk := D.nx } σ2 H2) := by
  refine ⟨fun i m σ H => m = n - i /\ i <= n /\ Pv i σ H, ⟨n, by simp, Nat.zero_le _, h0⟩, ?_⟩
  rintro i m σ H ⟨rfl, hi, p⟩
  by_cases hlt : i < n
  · refine .inr ⟨hlt, Pv (i + 1), fun σ' H' p' => ⟨n - (i + 1), by lia, rfl, hlt, p'⟩, fun x H' y => ?_⟩
    obtain ⟨e, y⟩ := y
    subst e y
    exact hs i σ _ hlt p
  · have e : i = n := by lia
    subst e
    exact .inl ⟨Nat.le_refl _, hd σ H p⟩
abbrev R2 := V -> V -> Hp -> VK -> Prop
def OpR (X : Cx) (f : Value -> Value -> Sem Value) (r : R2) : Prop :=
  ∀ (pins : List (Addr × Obj)) (s : Shared) (σ : St) (H : Hp) (x y : V) (v u : Value) (Q : VK), Inv X pins σ H s -> RelV x v -> RelV y u -> r x y H Q ->
    wpAny (model X.prog X.w) X.A (f v u) (EP X pins σ Q) X.xe s
def UnR (X : Cx) (f : Value -> Sem Value) (r : V -> Hp -> VK -> Prop) : Prop :=
  ∀ (pins : List (Addr × Obj)) (s : Shared) (σ : St) (H : Hp) (x : V) (v : Value) (Q : VK), Inv X pins σ H s -> RelV x v -> r x H Q ->
    wpAny (model X.prog X.w) X.A (f v) (EP X pins σ Q) X.xe s
def CallR (X : Cx) (f : Value) (r : List V -> Hp -> VK -> Prop) : Prop :=
  ∀ (pins : List (Addr × Obj)) (s : Shared) (σ : St) (H : Hp) (xs : List V) (us : List Value) (Q : VK), Inv X pins σ H s -> Vals xs us -> r xs H Q ->
    wpAny (model X.prog X.w) X.A (call f us) (EP X pins σ Q) X.xe s
def TruR (X : Cx) (r : V -> Hp -> (Bool -> Hp -> Prop) -> Prop) : Prop :=
  ∀ (pins : List (Addr × Obj)) (s : Shared) (σ : St) (H : Hp) (x : V) (v : Value) (Q : Bool -> Hp -> Prop), Inv X pins σ H s -> RelV x v -> r x H Q ->
    wpAny (model X.prog X.w) X.A (truthy v) (TP X pins σ Q) X.xe s
def tOp (r : R2) (ta tb : TE) : TE := fun σ H Q => ta σ H fun x H1 => tb σ H1 fun y H2 => r x y H2 Q
def tUn (r : V -> Hp -> VK -> Prop) (ta : TE) : TE := fun σ H Q => ta σ H fun x H1 => r x H1 Q
def rI (C : Int -> Int -> Prop) (g : Int -> Int -> V) : R2 := fun x y H Q => ∃ i j, x = .int i /\ y = .int j /\ C i j /\ Q (g i j) H
def rI0 (g : Int -> Int -> V) : R2 := fun x y H Q => ∃ i j, x = .int i /\ y = .int j /\ Q (g i j) H
def rU (g : Int -> V) : V -> Hp -> VK -> Prop := fun x H Q => ∃ i, x = .int i /\ Q (g i) H
section
variable {X : Cx} {a b c : Expr} {ta tb tc : TE} {pos : Pos}
theorem binT (ha : PE X a ta) (hb : PE X b tb) {pins : List (Addr × Obj)} {s : Shared} {σ : St} {H : Hp} {R : V -> V -> Hp -> Prop} (I : Inv X pins σ H s)
    (h : ta σ H fun x H1 => tb σ H1 fun y H2 => R x y H2) {Q : Value -> Shared -> Prop} {f : Value -> Value -> Sem Value}
    (hf : ∀ v u s2 x y H2, Inv X pins σ H2 s2 -> RelV x v -> RelV y u -> R x y H2 -> wpAny (model X.prog X.w) X.A (f v u) Q X.xe s2) :
    wpAny (model X.prog X.w) X.A (eval a X.env) (fun v s₁ => wpAny (model X.prog X.w) X.A (eval b X.env) (fun u s₂ => wpAny (model X.prog X.w) X.A (f v u) Q X.xe s₂) X.xe s₁) X.xe s := by
  refine thn (ha pins s σ H _ I h) fun v s1 ⟨x, H1, I1, r1, q1⟩ => ?_
  refine thn (hb pins s1 σ H1 _ I1 q1) fun u s2 ⟨y, H2, I2, r2, q2⟩ => ?_
  exact hf v u s2 x y H2 I2 r1 r2 q2
theorem pe_op {op : Operator} {r : R2} (ho : OpR X (binaryOp op) r) (ha : PE X a ta) (hb : PE X b tb) : PE X (.BinOp a op b pos) (tOp r ta tb) := by
  intro pins s σ H Q I h
  exact wpAny_BinOp (binT ha hb I h fun v u s2 x y H2 I2 rx ry q => ho pins s2 σ H2 x y v u Q I2 rx ry q)
theorem pe_un {op : UnaryOp} {r : V -> Hp -> VK -> Prop} (ho : UnR X (unaryOp op) r) (ha : PE X a ta) : PE X (.UnaryOp op a pos) (tUn r ta) := by
  intro pins s σ H Q I h
  exact UnaryOp_ (thn (ha pins s σ H _ I h) fun v s1 ⟨x, H1, I1, r1, q1⟩ => ho pins s1 σ H1 x v Q I1 r1 q1)
theorem opI {f : Value -> Value -> Sem Value} {C : Int -> Int -> Prop} {g : Int -> Int -> Int}
    (rule : ∀ (i j : Int) (t u : Tok) (s : Shared) (Q : Value -> Shared -> Prop) (E : Value -> Shared -> Prop), C i j -> Q (.int (g i j) s.toks) { s with toks := s.toks + 1 } -> wpAny (model X.prog X.w) X.A (f (.int i t) (.int j u)) Q E s) :
    OpR X f (rI C fun i j => .int (g i j)) := by
  intro pins s σ H x y v u Q I rx ry h
  obtain ⟨i, j, rfl, rfl, hc, q⟩ := h
  obtain ⟨t, rfl⟩ := rx
  obtain ⟨t', rfl⟩ := ry
  exact rule i j t t' s _ _ hc ⟨.int (g i j), H, I.tok _, ⟨_, rfl⟩, q⟩
theorem opI0 {f : Value -> Value -> Sem Value} {g : Int -> Int -> Int}
    (rule : ∀ (i j : Int) (t u : Tok) (s : Shared) (Q : Value -> Shared -> Prop) (E : Value -> Shared -> Prop), Q (.int (g i j) s.toks) { s with toks := s.toks + 1 } -> wpAny (model X.prog X.w) X.A (f (.int i t) (.int j u)) Q E s) :
    OpR X f (rI0 fun i j => .int (g i j)) := by
  intro pins s σ H x y v u Q I rx ry h
  obtain ⟨i, j, rfl, rfl, q⟩ := h
  obtain ⟨t, rfl⟩ := rx
  obtain ⟨t', rfl⟩ := ry
  exact rule i j t t' s _ _ ⟨.int (g i j), H, I.tok _, ⟨_, rfl⟩, q⟩
theorem opB0 {f : Value -> Value -> Sem Value} {g : Int -> Int -> Bool}
    (rule : ∀ (i j : Int) (t u : Tok) (s : Shared) (Q : Value -> Shared -> Prop) (E : Value -> Shared -> Prop), Q (.bool (g i j)) s -> wpAny (model X.prog X.w) X.A (f (.int i t) (.int j u)) Q E s) :
    OpR X f (rI0 fun i j => .bl (g i j)) := by
  intro pins s σ H x y v u Q I rx ry h
  obtain ⟨i, j, rfl, rfl, q⟩ := h
  obtain ⟨t, rfl⟩ := rx
  obtain ⟨t', rfl⟩ := ry
  exact rule i j t t' s _ _ ⟨.bl (g i j), H, I, rfl, q⟩
def CDiv (i j : Int) : Prop := 0 < j /\ j < 1073741824
def CPow (i j : Int) : Prop := 0 <= j /\ j <= 1000000 /\ i.natAbs < 2 ^ 64
theorem two_pow_nn (k : Nat) : (0 : Int) <= 2 ^ k := by
  rw [two_pow_cast]
  exact Int.natCast_nonneg _
theorem op_add : OpR X (binaryOp .Add) (rI0 fun i j => .int (i + j)) := opI0 fun _ _ _ _ _ _ _ q => add_int q
theorem op_sub : OpR X (binaryOp .Sub) (rI0 fun i j => .int (i - j)) := opI0 fun _ _ _ _ _ _ _ q => sub_int q
theorem op_fdiv : OpR X (binaryOp .FloorDiv) (rI CDiv fun i j => .int (i / j)) := opI fun i j _ _ _ _ _ hc q => by
  have h1 : (0 : Int) < j := hc.1
  have h2 : j < 1073741824 := hc.2
  exact floordiv_int (by lia) (by rw [Int.fdiv_eq_ediv_of_nonneg i (by lia)]; exact q) (.inl (PyProof.noPylong_small (by lia)))
theorem op_mod : OpR X (binaryOp .Mod) (rI (fun _ j => 0 < j) fun i j => .int (i % j)) := opI fun i j _ _ _ _ _ hc q => by
  have h1 : (0 : Int) < j := hc
  exact mod_int' (by lia) (by rw [Int.fmod_eq_emod_of_nonneg i (by lia)]; exact q)
theorem op_shl : OpR X (binaryOp .LShift) (rI CPow fun i j => .int (i * 2 ^ j.toNat)) := opI fun _ _ _ _ _ _ _ hc q => lshift_int_small hc.1 hc.2.1 hc.2.2 q
theorem op_shr : OpR X (binaryOp .RShift) (rI (fun _ j => 0 <= j) fun i j => .int (i / 2 ^ j.toNat)) := opI fun i j _ _ _ _ _ hc q =>
  rshift_int hc (by rw [Int.fdiv_eq_ediv_of_nonneg i (two_pow_nn _)]; exact q)
theorem op_and : OpR X (binaryOp .BitAnd) (rI0 fun i j => .int (Builtin.bitAnd i j)) := opI0 fun _ _ _ _ _ _ _ q => and_int q
theorem unI {f : Value -> Sem Value} {g : Int -> Int}
    (rule : ∀ (i : Int) (t : Tok) (s : Shared) (Q : Value -> Shared -> Prop) (E : Value -> Shared -> Prop), Q (.int (g i) s.toks) { s with toks := s.toks + 1 } -> wpAny (model X.prog X.w) X.A (f (.int i t)) Q E s) :
    UnR X f (rU fun i => .int (g i)) := by
  intro pins s σ H x v Q I rx h
  obtain ⟨i, rfl, q⟩ := h
  obtain ⟨t, rfl⟩ := rx
  exact rule i t s _ _ ⟨.int (g i), H, I.tok _, ⟨_, rfl⟩, q⟩
theorem un_neg : UnR X (unaryOp .USub) (rU fun i => .int (-i)) := unI fun _ _ _ _ _ q => neg_int q
end
def scal : V -> V -> Bool
  | .non, .non => true | .non, .int _ => true | .int _, .non => true | .non, .bl _ => true | .bl _, .non => true | .non, .str _ => true | .str _, .non => true
  | .int _, .int _ => true | .bl _, .bl _ => true | .str _, .str _ => true | .byt _, .byt _ => true
  | .int _, .str _ => true | .str _, .int _ => true | .bl _, .str _ => true | .str _, .bl _ => true
  | _, _ => false
def rEq : R2 := fun x y H Q => scal x y = true /\ Q (.bl (decide (x = y))) H
def rNe : R2 := fun x y H Q => scal x y = true /\ Q (.bl (!decide (x = y))) H
theorem dec_int {i j : Int} : decide (V.int i = V.int j) = (i == j) := by
  rw [Bool.eq_iff_iff]
  simp
theorem dec_bl {i j : Bool} : decide (V.bl i = V.bl j) = (i == j) := by
  rw [Bool.eq_iff_iff]
  simp
theorem dec_str {i j : Str} : decide (V.str i = V.str j) = (i == j) := by
  rw [Bool.eq_iff_iff]
  simp
theorem dec_byt {i j : Array UInt8} : decide (V.byt i = V.byt j) = (i.toList == j.toList) := by
  rw [Bool.eq_iff_iff]
  cases i
  cases j
  simp
section
variable {X : Cx} {a b c : Expr} {ta tb tc : TE} {pos : Pos}
theorem fin_bl {pins : List (Addr × Obj)} {σ : St} {H : Hp} {s : Shared} {Q : VK} {k k' : Bool} (I : Inv X pins σ H s) (q : Q (.bl k) H) (e : k = k') : EP X pins σ Q (.bool k') s := by
  subst e
  exact ⟨.bl k, H, I, rfl, q⟩
theorem op_eq : OpR X (compareOp .Eq) rEq := by
  intro pins s σ H x y v u Q I rx ry h
  obtain ⟨hs, q⟩ := h
  cases x with
  | non =>
    cases rx
    cases y with
    | non => cases ry; exact PySem.EqNone.eq_none_none (fin_bl I q (by simp))
    | bl j => cases ry; exact PySem.EqNone.eq_none_bool (fin_bl I q (by simp))
    | int j => obtain ⟨t', rfl⟩ := ry; exact PySem.EqNone.eq_none_int (fin_bl I q (by simp))
    | str j => obtain ⟨t', rfl⟩ := ry; exact PySem.EqNone.eq_none_str (fin_bl I q (by simp))
    | _ => exact absurd (show false = true from hs) Bool.false_ne_true
  | bl i =>
    cases rx
    cases y with
    | non => cases ry; exact PySem.EqNone.eq_bool_none (fin_bl I q (by simp))
    | bl j => cases ry; exact eq_bool (fin_bl I q dec_bl)
    | str j => obtain ⟨t', rfl⟩ := ry; exact PySem.EqMixed.eq_bool_str (fin_bl I q (by simp))
    | _ => exact absurd (show false = true from hs) Bool.false_ne_true
  | int i =>
    obtain ⟨t, rfl⟩ := rx
    cases y with
    | non => cases ry; exact PySem.EqNone.eq_int_none (fin_bl I q (by simp))
    | int j => obtain ⟨t', rfl⟩ := ry; exact eq_int (fin_bl I q dec_int)
    | str j => obtain ⟨t', rfl⟩ := ry; exact PySem.EqMixed.eq_int_str (fin_bl I q (by simp))
    | _ => exact absurd (show false = true from hs) Bool.false_ne_true
  | str i =>
    obtain ⟨t, rfl⟩ := rx
    cases y with
    | non => cases ry; exact PySem.EqNone.eq_str_none (fin_bl I q (by simp))
    | bl j => cases ry; exact PySem.EqMixed.eq_str_bool (fin_bl I q (by simp))
    | int j => obtain ⟨t', rfl⟩ := ry; exact PySem.EqMixed.eq_str_int (fin_bl I q (by simp))
    | str j => obtain ⟨t', rfl⟩ := ry; exact eq_str (fin_bl I q dec_str)
    | _ => exact absurd (show false = true from hs) Bool.false_ne_true
  | byt i =>
    obtain ⟨t, rfl⟩ := rx
    cases y with
    | byt j => obtain ⟨t', rfl⟩ := ry; exact PySem.W.eq_bytes (fin_bl I q dec_byt)
    | _ => exact absurd (show false = true from hs) Bool.false_ne_true
  | _ => cases y <;> exact absurd (show false = true from hs) Bool.false_ne_true
theorem op_ne : OpR X (compareOp .NotEq) rNe := by
  intro pins s σ H x y v u Q I rx ry h
  obtain ⟨hs, q⟩ := h
  cases x with
  | non =>
    cases rx
    cases y with
    | non => cases ry; exact PySem.EqNone.ne_none_none (fin_bl I q (by simp))
    | bl j => cases ry; exact PySem.EqNone.ne_none_bool (fin_bl I q (by simp))
    | int j => obtain ⟨t', rfl⟩ := ry; exact PySem.EqNone.ne_none_int (fin_bl I q (by simp))
    | str j => obtain ⟨t', rfl⟩ := ry; exact PySem.EqNone.ne_none_str (fin_bl I q (by simp))
    | _ => exact absurd (show false = true from hs) Bool.false_ne_true
  | bl i =>
    cases rx
    cases y with
    | non => cases ry; exact PySem.EqNone.ne_bool_none (fin_bl I q (by simp))
    | bl j => cases ry; exact ne_bool (fin_bl I q (congrArg not dec_bl))
    | str j => obtain ⟨t', rfl⟩ := ry; exact PySem.EqMixed.ne_bool_str (fin_bl I q (by simp))
    | _ => exact absurd (show false = true from hs) Bool.false_ne_true
  | int i =>
    obtain ⟨t, rfl⟩ := rx
    cases y with
    | non => cases ry; exact PySem.EqNone.ne_int_none (fin_bl I q (by simp))
    | int j => obtain ⟨t', rfl⟩ := ry; exact ne_int (fin_bl I q (congrArg not dec_int))
    | str j => obtain ⟨t', rfl⟩ := ry; exact PySem.EqMixed.ne_int_str (fin_bl I q (by simp))
    | _ => exact absurd (show false = true from hs) Bool.false_ne_true
  | str i =>
    obtain ⟨t, rfl⟩ := rx
    cases y with
    | non => cases ry; exact PySem.EqNone.ne_str_none (fin_bl I q (by simp))
    | bl j => cases ry; exact PySem.EqMixed.ne_str_bool (fin_bl I q (by simp))
    | int j => obtain ⟨t', rfl⟩ := ry; exact PySem.EqMixed.ne_str_int (fin_bl I q (by simp))
    | str j => obtain ⟨t', rfl⟩ := ry; exact ne_str (fin_bl I q (congrArg not dec_str))
    | _ => exact absurd (show false = true from hs) Bool.false_ne_true
  | byt i =>
    obtain ⟨t, rfl⟩ := rx
    cases y with
    | byt j => obtain ⟨t', rfl⟩ := ry; exact PySem.W.ne_bytes (fin_bl I q (congrArg not dec_byt))
    | _ => exact absurd (show false = true from hs) Bool.false_ne_true
  | _ => cases y <;> exact absurd (show false = true from hs) Bool.false_ne_true
theorem op_lt : OpR X (compareOp .Lt) (rI0 fun i j => .bl (decide (i < j))) := opB0 fun _ _ _ _ _ _ _ q => lt_int q
theorem op_le : OpR X (compareOp .LtE) (rI0 fun i j => .bl (decide (i <= j))) := opB0 fun _ _ _ _ _ _ _ q => le_int q
theorem op_gt : OpR X (compareOp .Gt) (rI0 fun i j => .bl (decide (j < i))) := opB0 fun _ _ _ _ _ _ _ q => gt_int q
theorem op_isN : OpR X (compareOp .Is) (fun x y H Q => y = .non /\ Q (.bl (decide (x = .non))) H) := by
  intro pins s σ H x y v u Q I rx ry h
  obtain ⟨rfl, q⟩ := h
  cases ry
  refine is_none_gen (fin_bl I q ?_)
  cases x <;> first
    | (cases rx; rfl)
    | (obtain ⟨t, rfl⟩ := rx; rfl)
theorem OpR.or {f : Value -> Value -> Sem Value} {r r' : R2} (h : OpR X f r) (h' : OpR X f r') : OpR X f (fun x y H Q => r x y H Q \/ r' x y H Q) := by
  intro pins s σ H x y v u Q I rx ry q
  rcases q with q | q
  · exact h pins s σ H x y v u Q I rx ry q
  · exact h' pins s σ H x y v u Q I rx ry q
theorem nomark (b : Expr) {op : CmpOp} (h : op ≠ .In := by decide) (h2 : op ≠ .NotIn := by decide) : behindInMarks op b = false := by
  have e1 : (op == CmpOp.In) = false := by cases op <;> first | rfl | exact absurd rfl h
  have e2 : (op == CmpOp.NotIn) = false := by cases op <;> first | rfl | exact absurd rfl h2
  cases b <;> simp [behindInMarks, e1, e2]
theorem pe_cmpR {op : CmpOp} {r : R2} (ho : OpR X (compareOp op) r) (ha : PE X a ta) (hb : PE X b tb) (hm : behindInMarks op b = false) : PE X (.Compare a [op] [b] pos) (tOp r ta tb) := by
  intro pins s σ H Q I h
  exact wpAny_Compare1 (binT ha hb I h fun v u s2 x y H2 I2 rx ry q => ho pins s2 σ H2 x y v u Q I2 rx ry q) hm
def tTest (t : TE) : TT := fun σ H Q => t σ H fun x H' => ∃ k, x = .bl k /\ Q k H'
theorem pt_cmpR {op : CmpOp} {r : R2} (ho : OpR X (compareOp op) r) (ha : PE X a ta) (hb : PE X b tb) (hm : behindInMarks op b = false) : PT X (.Compare a [op] [b] pos) (tTest (tOp r ta tb)) := by
  intro pins s σ H Q I h
  refine wpAny_isTrue_Compare1 (thn (ha pins s σ H _ I h) fun v s1 ⟨x, H1, I1, r1, q1⟩ => thn (hb pins s1 σ H1 _ I1 q1) fun u s2 ⟨y, H2, I2, r2, q2⟩ =>
    thn (ho pins s2 σ H2 x y v u _ I2 r1 r2 q2) fun c s3 ⟨z, H3, I3, r3, k, e, q3⟩ => ?_) hm
  subst e
  cases r3
  exact wpAny_truthy_bool ⟨H3, I3, q3⟩
def tChain (r r' : R2) (ta tb tc : TE) : TE := fun σ H Q => ta σ H fun x H1 => tb σ H1 fun y H2 => r x y H2 fun z H3 => ∃ k, z = .bl k /\
  (if k = true then tc σ H3 fun w' H4 => r' y w' H4 Q else Q (.bl false) H3)
theorem pe_chain {op op' : CmpOp} {r r' : R2} (ho : OpR X (compareOp op) r) (ho' : OpR X (compareOp op') r') (ha : PE X a ta) (hb : PE X b tb) (hc : PE X c tc)
    (hm : lastMarks [op, op'] [b, c] = false := by with_unfolding_all rfl) : PE X (.Compare a [op, op'] [b, c] pos) (tChain r r' ta tb tc) := by
  intro pins s σ H Q I h
  refine Compare_chain (thn (ha pins s σ H _ I h) fun v s1 ⟨x, H1, I1, r1, q1⟩ => chain_link (thn (hb pins s1 σ H1 _ I1 q1) fun u s2 ⟨y, H2, I2, r2, q2⟩ =>
    thn (ho pins s2 σ H2 x y v u _ I2 r1 r2 q2) fun d s3 ⟨z, H3, I3, r3, k, e, q3⟩ => ?_)) hm
  subst e
  cases r3
  refine wpAny_truthy_bool ?_
  cases k with
  | false => exact ite_ff ⟨.bl false, H3, I3, rfl, q3⟩
  | true => exact ite_tt (chain_last (thn (hc pins s3 σ H3 _ I3 q3) fun w' s4 ⟨z', H4, I4, r4, q4⟩ => ho' pins s4 σ H4 y z' u w' Q I4 r2 r4 q4))
def TruV (K : PySem.W.Frag) (x : V) (H : Hp) (k : Bool) : Prop :=
  match x with
  | .non => k = false
  | .bl b => k = b
  | .int i => k = (i != 0)
  | .str y => y.length <= sizeLine /\ k = ((y.length : Int) != 0)
  | .byt y => y.size <= sizeLine /\ k = ((y.size : Int) != 0)
  | .ref p => (∃ xs, SqL K H p xs /\ k = !xs.isEmpty) \/ (∃ xs, SqT K H p xs /\ k = !xs.isEmpty) \/ ∃ kvs, H p = some (.dK kvs) /\ k = !kvs.isEmpty
  | _ => False
theorem isEmpty_kv {κ : Type} {kvs : List (κ × V)} {vs : List (κ × Value)} (r : KV kvs vs) : (!vs.isEmpty) = !kvs.isEmpty := by
  cases r <;> rfl
theorem isEmpty_of {xs : List V} {its : List Value} (r : Vals xs its) : (!its.toArray.isEmpty) = !xs.isEmpty := by
  cases r <;> simp
theorem line63 : (sizeLine : Nat) < 2 ^ 63 := by rw [sizeLine_eq]; decide
theorem tru_ok : TruR X (fun x H Q => ∃ k, TruV X.K x H k /\ Q k H) := by
  intro pins s σ H x v Q I rx h
  obtain ⟨k, e, q⟩ := h
  have hl := line63
  have hs : sizeLine = 16777216 := sizeLine_eq
  cases x with
  | non =>
    cases rx
    have e' : k = false := e
    subst e'
    exact truthy_none ⟨H, I, q⟩
  | bl b =>
    cases rx
    have e' : k = b := e
    subst e'
    exact wpAny_truthy_bool ⟨H, I, q⟩
  | int i =>
    obtain ⟨t, rfl⟩ := rx
    have e' : k = (i != 0) := e
    subst e'
    exact PySem.P.truthy_int ⟨H, I, q⟩
  | str y =>
    obtain ⟨t, rfl⟩ := rx
    obtain ⟨hy, e'⟩ : y.length <= sizeLine /\ k = ((y.length : Int) != 0) := e
    subst e'
    exact PySem.P.truthy_str (by lia) ⟨H, I.tok _, q⟩
  | byt y =>
    obtain ⟨t, rfl⟩ := rx
    obtain ⟨hy, e'⟩ : y.size <= sizeLine /\ k = ((y.size : Int) != 0) := e
    subst e'
    exact PySem.W.truthy_bytes (by lia) ⟨H, I.tok _, q⟩
  | ref p =>
    cases rx
    have e' : (∃ xs, SqL X.K H p xs /\ k = !xs.isEmpty) \/ (∃ xs, SqT X.K H p xs /\ k = !xs.isEmpty) \/ ∃ kvs, H p = some (.dK kvs) /\ k = !kvs.isEmpty := e
    rcases e' with ⟨xs, hx, e'⟩ | ⟨xs, hx, e'⟩ | ⟨kvs, hx, e'⟩
    · subst e'
      obtain ⟨its, r, pl, hz⟩ := I.list hx
      have hlen := r.length
      exact wpAny_truthy_list pl.isList (by simp only [List.size_toArray]; lia) ⟨H, I.tok _, by rw [isEmpty_of r]; exact q⟩
    · subst e'
      obtain ⟨its, r, pl, hz⟩ := I.tuple hx
      have hlen := r.length
      exact truthy_tuple pl (by simp only [List.size_toArray]; lia) ⟨H, I.tok _, by rw [isEmpty_of r]; exact q⟩
    · subst e'
      obtain ⟨hz, hS, vs, r, m⟩ : kvs.length <= sizeLine /\ (p == sysModules) = false /\ ∃ vs, KV kvs vs /\ s.heap.DictOf (mixKind X.prog X.w) p vs := I.hok p _ hx
      have hlen : kvs.length = vs.length := Paired.length r
      exact wpAny_truthy_dict hS m (by lia) ⟨H, I.tok _, by rw [isEmpty_kv r]; exact q⟩
  | _ => exact (show False from e).elim
theorem pt_truth (ha : PE X a ta) (he : ∀ whole, isTrue a X.env whole = (do let v <- whole; standAt a.pos; holding [v] (truthy v))) :
    PT X a (fun σ H Q => ta σ H fun x H' => ∃ k, TruV X.K x H' k /\ Q k H') := by
  intro pins s σ H Q I h
  exact isTrue_plain (thn (ha pins s σ H _ I h) fun v s1 ⟨x, H1, I1, r1, q1⟩ => tru_ok pins s1 σ H1 x v Q I1 r1 q1) (he _)
theorem vals1 {x : V} {us : List Value} (r : Vals [x] us) : ∃ u, us = [u] /\ RelV x u := by
  cases r with
  | cons r1 r2 => cases r2; exact ⟨_, rfl, r1⟩
theorem vals2 {x y : V} {us : List Value} (r : Vals [x, y] us) : ∃ u w', us = [u, w'] /\ RelV x u /\ RelV y w' := by
  cases r with
  | cons r1 r2 =>
    cases r2 with
    | cons r3 r4 => cases r4; exact ⟨_, _, rfl, r1, r3⟩
theorem call_max2 (hc : X.calm = true) : CallR X (.builtin "max") (fun xs H Q => ∃ i j, xs = [.int i, .int j] /\ Q (.int (if j > i then j else i)) H) := by
  intro pins s σ H xs us Q I r h
  obtain ⟨i, j, rfl, q⟩ := h
  obtain ⟨u, w', rfl, ⟨t, rfl⟩, ⟨t', rfl⟩⟩ := vals2 r
  refine max_two_ints (I.ok.hd hc) fun h' tk k => ⟨_, H, I.kept k, ?_, q⟩
  by_cases hj : j > i
  · rw [if_pos hj, if_pos hj]; exact ⟨_, rfl⟩
  · rw [if_neg hj, if_neg hj]; exact ⟨_, rfl⟩
theorem call_min2 (hc : X.calm = true) : CallR X (.builtin "min") (fun xs H Q => ∃ i j, xs = [.int i, .int j] /\ Q (.int (if j < i then j else i)) H) := by
  intro pins s σ H xs us Q I r h
  obtain ⟨i, j, rfl, q⟩ := h
  obtain ⟨u, w', rfl, ⟨t, rfl⟩, ⟨t', rfl⟩⟩ := vals2 r
  refine min_two_ints (I.ok.hd hc) fun h' tk k => ⟨_, H, I.kept k, ?_, q⟩
  by_cases hj : j < i
  · rw [if_pos hj, if_pos hj]; exact ⟨_, rfl⟩
  · rw [if_neg hj, if_neg hj]; exact ⟨_, rfl⟩
theorem call_int1 : CallR X (.type "int") (fun xs H Q => (∃ i, xs = [.int i] /\ Q (.int i) H) \/ ∃ k, xs = [.bl k] /\ Q (.int (if k then 1 else 0)) H) := by
  intro pins s σ H xs us Q I r h
  rcases h with ⟨i, rfl, q⟩ | ⟨k, rfl, q⟩
  · obtain ⟨u, rfl, t, rfl⟩ := vals1 r
    exact call_int_int ⟨.int i, H, I, ⟨_, rfl⟩, q⟩
  · obtain ⟨u, rfl, r1⟩ := vals1 r
    cases r1
    exact call_int_bool ⟨.int (if k then 1 else 0), H, I.tok _, ⟨_, rfl⟩, q⟩
end
structure ObjM (h : Heap) (x dx C : Addr) (mA : Str -> Option Value) : Prop where
  obj : h.get? x = some (PySem.W.instObj C dx)
  ns : h.Ns1 dx mA
  ne : dx ≠ x
theorem lookIn_ns {h : Heap} {dx : Addr} {mA : Str -> Option Value} (n : h.Ns1 dx mA) : ∃ od, h.get? dx = some od /\ ∀ name, PySem.W.lookIn name od = some (mA name) := by
  obtain ⟨o, es, ep, ho, hd, hk, _, hm⟩ := n
  refine ⟨o, ho, fun name => ?_⟩
  have e := hm name
  unfold nsFind findBy at e
  rw [<- Array.find?_toList] at e
  unfold PySem.W.lookIn
  rw [hd]
  dsimp only
  split
  · rename_i y q
    rw [q] at e
    exact congrArg some e
  · rename_i q
    rw [q] at e
    have a : es.toList.any (·.refKey) = false := by
      rw [List.any_eq_false]
      intro y hy
      obtain ⟨z, t, hkey⟩ := hk y (Array.mem_toList_iff.mp hy)
      simp [DictEntry.refKey, hkey]
    have a' : ¬ es.toList.any (·.refKey) = true := by rw [a]; exact Bool.false_ne_true
    rw [if_neg a']
    exact congrArg some e
theorem ObjM.look {h : Heap} {x dx C : Addr} {mA : Str -> Option Value} (I : ObjM h x dx C mA) : ∃ od, PySem.W.InstAt h x (PySem.W.instObj C dx) C (some od) /\ ∀ name, PySem.W.lookIn name od = some (mA name) :=
  let ⟨od, ho, hl⟩ := lookIn_ns I.ns
  ⟨od, ⟨I.obj, rfl, rfl, ho⟩, hl⟩
section
variable {prog : Program} {w : World} {A : Around} {E : Value -> Shared -> Prop} {s : Shared} {K : PySem.W.Frag} {x dx C f : Addr} {mA : Str -> Option Value} {name : Str} {v : Value}
theorem get_map {expr : Bool} {Q : Value -> Shared -> Prop} (X : K.In s.heap) (I : ObjM s.heap x dx C mA) (hg : PySem.W.plainGet K C name = true) (hh : PySem.W.hasDictIn K C = true)
    (ha : PySem.W.findIn K (.ref C) name = some none) (hv : mA name = some v) (hv' : PySem.W.handedIn v = true) (h : Q v { s with toks := s.toks + 1 }) :
    wpAny (model prog w) A (getAttr (.ref x) name expr) Q E s := by
  obtain ⟨od, J, hl⟩ := I.look
  exact PySem.W.get_value X J (PySem.W.plainGet_of hg).1 (PySem.W.findObj_own hh ha rfl (by rw [hl, hv])) hv' h
theorem get_meth {pl : Sem Bool} {Q : Value × List Value -> Shared -> Prop} (X : K.In s.heap) (I : ObjM s.heap x dx C mA) (hg : PySem.W.plainGet K C name = true)
    (hf : PySem.W.findIn K (.ref C) name = some (some (.ref f))) (ht : PySem.W.isFn K (.ref f) = true) (hv : mA name = none) (h : Q (.ref f, [.ref x]) s) :
    wpAny (model prog w) A (getMethod (.ref x) name pl) Q E s := by
  obtain ⟨od, J, hl⟩ := I.look
  exact PySem.W.method_fn X J (PySem.W.plainGet_of hg).1 (PySem.W.plainGet_of hg).2 hf (beq_iff_eq.mp ht) (by show (PySem.W.lookIn name od).map (·.isSome) = some false; rw [hl, hv]; rfl) h
theorem set_map {ns : List Str} {Q : Unit -> Shared -> Prop} (X : K.In s.heap) (I : ObjM s.heap x dx C mA)
    (hs : PySem.W.findIn K (.ref C) "__setattr__" = some (some (.builtin "object.__setattr__"))) (hp : PySem.W.plainOver K C = true) (ht : PySem.W.takerIn K C name = some none) (hh : PySem.W.hasDictIn K C = true)
    (hw : PySem.Within mA ns) (hsz : ns.length <= sizeLine)
    (h : ∀ h', ObjM h' x dx C (fun y => if y = name then some v else mA y) -> Heap.SameBut dx s.heap h' -> Q () { s with heap := h', toks := s.toks + 2 }) :
    wpAny (model prog w) A (setAttr (.ref x) name v) Q E s := by
  obtain ⟨od, J, hl⟩ := I.look
  refine PySem.W.set_plain X J hs (PySem.W.osa_open (s := { s with toks := s.toks + 1 }) (r := none) X J hp ht fun b => ?_)
  obtain ⟨cd, hc, hd'⟩ := PySem.W.any_some hh
  have hx : s.heap.get? x = some ⟨.ref C, some dx, .plain, #[]⟩ := I.obj
  refine wpAny_bind (wpAny_pure (wpAny_bind (wpAny_bind (wpAny_loadPart hx (wpAny_bind (PySem.W.Looks.here (s := { s with toks := s.toks + 1 }) (PySem.W.looks_clsIn X hc) ?_))))))
  rw [hd']
  refine wpAny_pure (a := some dx) (wpAny_bind (wpAny_pure (wpAny_bind ?_)))
  refine wpAny_nsSet1 (s := { s with toks := s.toks + 1 }) I.ns fun h' hn2 hs2 => ?_
  obtain ⟨oD, esD, epD, hoD, hdD, hcD⟩ := hn2.count (PySem.Within.cons name v hw)
  refine wpAny_bind (wpAny_lookBehind hoD (by rw [hdD]; exact pastItsLine_dict (Nat.le_trans hcD (by rw [List.length_cons]; lia))) ?_)
  exact wpAny_pure (h _ ⟨(hs2.2 _ (Ne.symm I.ne)).trans I.obj, hn2, I.ne⟩ hs2)
theorem make_map {R : Result -> Shared -> Prop} {vs : List Value} {kw : List (Str × Value)} (X : K.In s.heap) (hm : PySem.W.makesIn K C = true)
    (hi : PySem.W.findIn K (.ref C) "__init__" = some (some (.ref f))) (hf : PySem.W.typeIn K (.ref f) = some (.type "function"))
    (h : codeAny (model prog w) (A.under (.builtin "type.__call__" ⟨.ref C :: vs, kw⟩)) (.call (.ref f) ⟨.ref (s.heap.objs.size + 1) :: vs, kw⟩) (PySem.W.InitBack (s.heap.objs.size + 1) R)
      { s with heap := (s.heap.push PySem.W.emptyDict).push (PySem.W.instObj C s.heap.objs.size) }) :
    codeAny (model prog w) A (.call (.ref C) ⟨vs, kw⟩) R s := by
  obtain ⟨hh, g, d, t, os⟩ := s
  exact PySem.W.make_core (PySem.W.makes_of X hm) (PySem.W.looks_findIn X hi) (fun self => PySem.W.bind_fn X self hf) (.inl rfl) h
theorem make_map0 {R : Result -> Shared -> Prop} (X : K.In s.heap) (hm : PySem.W.makesIn K C = true)
    (hi : PySem.W.findIn K (.ref C) "__init__" = some (some (.builtin "object.__init__")))
    (hb : ∀ self, PySem.W.Looks (model prog w) s.heap (bindSpecial (.builtin "object.__init__") self) (.builtin "object.__init__", [self]))
    (h : codeAny (model prog w) (A.under (.builtin "type.__call__" ⟨[.ref C], []⟩)) (.call (.builtin "object.__init__") ⟨[.ref (s.heap.objs.size + 1)], []⟩) (PySem.W.InitBack (s.heap.objs.size + 1) R)
      { s with heap := (s.heap.push PySem.W.emptyDict).push (PySem.W.instObj C s.heap.objs.size) }) :
    codeAny (model prog w) A (.call (.ref C) ⟨[], []⟩) R s := by
  obtain ⟨hh, g, d, t, os⟩ := s
  exact PySem.W.make_core (PySem.W.makes_of X hm) (PySem.W.looks_findIn X hi) hb (.inr ⟨rfl, rfl⟩) h
end
def putF (f : Str) (v : V) : List (Str × V) -> List (Str × V)
  | [] => [(f, v)]
  | (g, x) :: r => if g = f then (g, v) :: r else (g, x) :: putF f v r
theorem lookup_putF (f g : Str) (v : V) : ∀ fs : List (Str × V), (putF f v fs).lookup g = if g = f then some v else fs.lookup g
  | [] => by
    show List.lookup g [(f, v)] = _
    by_cases h : g = f
    · have hb : (g == f) = true := beq_iff_eq.mpr h
      simp only [List.lookup, hb, if_pos h]
    · have hb : (g == f) = false := beq_eq_false_iff_ne.mpr h
      simp only [List.lookup, hb, if_neg h]
  | (k, x) :: r => by
    have ih := lookup_putF f g v r
    rw [show putF f v ((k, x) :: r) = (if k = f then (k, v) :: r else (k, x) :: putF f v r) from rfl]
    by_cases hk : k = f
    · rw [if_pos hk]
      by_cases h : g = k
      · have hb : (g == k) = true := beq_iff_eq.mpr h
        simp only [List.lookup, hb, if_pos (h.trans hk)]
      · have hb : (g == k) = false := beq_eq_false_iff_ne.mpr h
        simp only [List.lookup, hb, if_neg (fun e : g = f => h (e.trans hk.symm))]
    · rw [if_neg hk]
      by_cases h : g = k
      · have hb : (g == k) = true := beq_iff_eq.mpr h
        simp only [List.lookup, hb, if_neg (fun e : g = f => hk (h.symm.trans e))]
      · have hb : (g == k) = false := beq_eq_false_iff_ne.mpr h
        simp only [List.lookup, hb]
        exact ih
theorem keys_putF (f : Str) (v : V) : ∀ fs : List (Str × V), f ∈ (putF f v fs).map (·.1) /\ ∀ g, g ∈ fs.map (·.1) -> g ∈ (putF f v fs).map (·.1)
  | [] => ⟨by simp [putF], fun g h => by simp at h⟩
  | (k, x) :: r => by
    obtain ⟨i1, i2⟩ := keys_putF f v r
    rw [show putF f v ((k, x) :: r) = (if k = f then (k, v) :: r else (k, x) :: putF f v r) from rfl]
    by_cases hk : k = f
    · rw [if_pos hk]
      subst hk
      exact ⟨by simp, fun g h => by simpa using h⟩
    · rw [if_neg hk]
      refine ⟨?_, fun g h => ?_⟩
      · rw [List.map_cons]
        exact List.mem_cons_of_mem _ i1
      · rw [List.map_cons] at h ⊢
        rcases List.mem_cons.mp h with e | e
        · exact List.mem_cons.mpr (.inl e)
        · exact List.mem_cons_of_mem _ (i2 g e)
theorem length_putF (f : Str) (v : V) : ∀ fs : List (Str × V), (putF f v fs).length <= fs.length + 1
  | [] => by simp [putF]
  | (k, x) :: r => by
    have ih := length_putF f v r
    rw [show putF f v ((k, x) :: r) = (if k = f then (k, v) :: r else (k, x) :: putF f v r) from rfl]
    by_cases hk : k = f
    · rw [if_pos hk, List.length_cons, List.length_cons]; lia
    · rw [if_neg hk, List.length_cons, List.length_cons]; lia
theorem RelO.some_of {v : V} {o : Option Value} (r : RelO (some v) o) : ∃ u, o = some u /\ RelV v u := by
  cases o with
  | none => exact (show False from r).elim
  | some u => exact ⟨u, rfl, r⟩
theorem RelO.none_of {o : Option Value} (r : RelO none o) : o = none := by
  cases o with
  | none => rfl
  | some u => exact (show False from r).elim
theorem handed_of {v : V} {u : Value} (r : RelV v u) : PySem.W.handedIn u = true := by
  cases v with
  | non => cases (show u = Value.none from r); rfl
  | bl b => cases (show u = Value.bool b from r); rfl
  | int i => obtain ⟨t, e⟩ := (show ∃ t, u = Value.int i t from r); cases e; rfl
  | str x => obtain ⟨t, e⟩ := (show ∃ t, u = Value.str x t from r); cases e; rfl
  | byt b => obtain ⟨t, e⟩ := (show ∃ t, u = Value.bytes b t from r); cases e; rfl
  | flt b => obtain ⟨t, e⟩ := (show ∃ t, u = Value.float b t from r); cases e; rfl
  | ref a => cases (show u = Value.ref a from r); rfl
  | ty n => cases (show u = Value.type n from r); rfl
section
variable {P : Program} {w : World} {H H' : Hp} {h h' : Heap} {a C dx : Addr} {fs fs' : List (Str × V)}
theorem ins_get (hok : HOk P w H h) (e : H a = some (.ins C dx fs)) : ∃ mA, ObjM h a dx C mA /\ (∀ f, RelO (fs.lookup f) (mA f)) /\ PySem.Within mA (fs.map (·.1)) /\ fs.length <= 1000 /\ H dx = some (.own a) := by
  obtain ⟨d, z, ne, ob, mA, n, r, q⟩ := (show ObjOk P w H h a (.ins C dx fs) from hok a _ e)
  exact ⟨mA, ⟨ob, n, ne⟩, r, q, z, d⟩
end
structure Cls (K : PySem.W.Frag) (C : Addr) : Prop where
  pg : PySem.W.plainGet K C Str.empty = true
  hd : PySem.W.hasDictIn K C = true
  po : PySem.W.plainOver K C = true
  sa : PySem.W.findIn K (.ref C) "__setattr__" = some (some (.builtin "object.__setattr__"))
theorem Cls.get {K : PySem.W.Frag} {C : Addr} (c : Cls K C) (f : Str) : PySem.W.plainGet K C f = true := c.pg
def NoAttr (K : PySem.W.Frag) (C : Addr) (f : Str) : Prop := PySem.W.findIn K (.ref C) f = some none
theorem NoAttr.taker {K : PySem.W.Frag} {C : Addr} {f : Str} (n : NoAttr K C f) : PySem.W.takerIn K C f = some none := by
  unfold PySem.W.takerIn
  rw [show PySem.W.findIn K (.ref C) f = some none from n]
  rfl
structure Meth (K : PySem.W.Frag) (C : Addr) (m : Str) (f : Addr) : Prop where
  at_ : PySem.W.findIn K (.ref C) m = some (some (.ref f))
  fn : PySem.W.isFn K (.ref f) = true
  kp : PySem.W.keepIn K (.ref f) = true
section
variable {X : Cx} {pins : List (Addr × Obj)} {σ : St} {H : Hp} {s : Shared} {a C dx : Addr} {fs : List (Str × V)} {f : Str} {v : V} {A : Around} {E : Value -> Shared -> Prop}
theorem getattr_ok {b : Bool} {Q : Value -> Shared -> Prop} (I : Inv X pins σ H s) (e : H a = some (.ins C dx fs)) (c : Cls X.K C) (n : NoAttr X.K C f) (l : fs.lookup f = some v)
    (h : ∀ u s', Inv X pins σ H s' -> RelV v u -> Q u s') : wpAny (model X.prog X.w) A (getAttr (.ref a) f b) Q E s := by
  obtain ⟨mA, O, r, _, _, _⟩ := ins_get I.hok e
  obtain ⟨u, hu, ru⟩ := RelO.some_of (v := v) (o := mA f) (by rw [<- l]; exact r f)
  exact get_map I.kIn O (c.get f) c.hd n hu (handed_of ru) (h u _ (I.tok _) ru)
theorem getmeth_ok {m : Str} {g : Addr} {pl : Sem Bool} {Q : Value × List Value -> Shared -> Prop} (I : Inv X pins σ H s) (e : H a = some (.ins C dx fs)) (c : Cls X.K C) (k : Meth X.K C m g) (l : fs.lookup m = none)
    (h : Q (.ref g, [.ref a]) s) : wpAny (model X.prog X.w) A (getMethod (.ref a) m pl) Q E s := by
  obtain ⟨mA, O, r, _, _, _⟩ := ins_get I.hok e
  have hn : mA m = none := RelO.none_of (by rw [<- l]; exact r m)
  exact get_meth I.kIn O (c.get m) k.at_ k.fn hn h
theorem setattr_ok {y : V} {u : Value} {Q : Unit -> Shared -> Prop} (I : Inv X pins σ H s) (e : H a = some (.ins C dx fs)) (c : Cls X.K C) (n : NoAttr X.K C f) (hl : fs.length < 1000) (ry : RelV y u)
    (h : ∀ s', Inv X pins σ (upd H a (.ins C dx (putF f y fs))) s' -> Q () s') : wpAny (model X.prog X.w) A (setAttr (.ref a) f u) Q E s := by
  obtain ⟨mA, O, r, wi, _, ho⟩ := ins_get I.hok e
  have hz : (fs.map (·.1)).length <= sizeLine := by rw [List.length_map, sizeLine_eq]; lia
  refine set_map I.kIn O c.sa c.po n.taker c.hd wi hz fun h' O' sb => h _ ?_
  have hd : ∃ o, h'.get? dx = some o := let ⟨o, _, _, e', _⟩ := O'.ns; ⟨o, e'⟩
  refine I.write (x := a) (e := dx) (by rw [e]; exact True.intro) (.inr ho) (fun b q hb z => (sb.2 b hb).trans z) hd ?_
  refine ⟨by rw [upd_ne O.ne]; exact ho, ?_, O.ne, O'.obj, _, O'.ns, fun g => ?_, fun g hg => ?_⟩
  · have := length_putF f y fs; lia
  · show RelO ((putF f y fs).lookup g) (if g = f then some u else mA g)
    rw [lookup_putF]
    by_cases q : g = f
    · rw [if_pos q, if_pos q]; exact ry
    · rw [if_neg q, if_neg q]; exact r g
  · by_cases q : g = f
    · rw [q]; exact (keys_putF f y fs).1
    · refine (keys_putF f y fs).2 g (wi g fun z => hg ?_)
      show (if g = f then some u else mA g) = none
      rw [if_neg q]; exact z
theorem Inv.made (I : Inv X pins σ H s) : Inv X pins σ (upd (upd H s.heap.objs.size (.own (s.heap.objs.size + 1))) (s.heap.objs.size + 1) (.ins C s.heap.objs.size []))
    { s with heap := (s.heap.push PySem.W.emptyDict).push (PySem.W.instObj C s.heap.objs.size) } := by
  have e1 : (s.heap.push PySem.W.emptyDict).get? s.heap.objs.size = some PySem.W.emptyDict := Heap.get?_push_size s.heap rfl
  have e2 : ((s.heap.push PySem.W.emptyDict).push (PySem.W.instObj C s.heap.objs.size)).get? (s.heap.objs.size + 1) = some (PySem.W.instObj C s.heap.objs.size) := by
    have := Heap.get?_push_size (s.heap.push PySem.W.emptyDict) (o := PySem.W.instObj C s.heap.objs.size) rfl
    rwa [Heap.size_push] at this
  have e3 : (s.heap.push PySem.W.emptyDict).Ns s.heap.objs.size (fun _ => none) := ⟨PySem.W.emptyDict, #[], _, e1, rfl, (fun e he => absurd he (by simp)), fun _ => rfl⟩
  have I1 := I.laid (a := s.heap.objs.size) (o := .own (s.heap.objs.size + 1)) (h' := s.heap.push PySem.W.emptyDict) (t' := s.toks) (fun b u q => Heap.get?_push_of_some _ q) (Nat.le_refl _) ⟨_, e1⟩
  refine I1.laid (a := s.heap.objs.size + 1) (o := .ins C s.heap.objs.size []) (t' := s.toks) (fun b u q => Heap.get?_push_of_some _ q) (Nat.le_of_eq (Heap.size_push _ _)) ?_
  have ne : s.heap.objs.size ≠ s.heap.objs.size + 1 := Nat.ne_of_lt (Nat.lt_succ_self _)
  refine ⟨by rw [upd_ne ne, upd_same], Nat.zero_le _, ne, e2, fun _ => none, (Heap.Ns1.of_empty e3).at fun o q => Heap.get?_push_of_some _ q, fun _ => True.intro, fun y hy => absurd rfl hy⟩
theorem attr_of {prog : Program} {w : World} {env : Env} {e : Expr} {f : Str} {pos : Pos} {s : Shared} {Q : Value -> Shared -> Prop} (hb : attributeBase e f env (eval e env) = eval e env)
    (h : wpAny (model prog w) A (eval e env) (fun o s₁ => wpAny (model prog w) A (getAttr o f true) Q E s₁) E s) : wpAny (model prog w) A (eval (.Attribute e f pos) env) Q E s :=
  Attribute_any_ h (by rw [arm_eval_Attribute, hb])
end
def tFld (K : PySem.W.Frag) (ta : TE) (f : Str) : TE := fun σ H Q => ta σ H fun x H1 => ∃ a C dx fs v, x = .ref a /\ H1 a = some (.ins C dx fs) /\ Cls K C /\ NoAttr K C f /\ fs.lookup f = some v /\ Q v H1
def sFld (K : PySem.W.Frag) (ta tv : TE) (f : Str) : TS := fun D σ H => tv σ H fun y H1 => ta σ H1 fun x H2 => ∃ a C dx fs, x = .ref a /\ H2 a = some (.ins C dx fs) /\ Cls K C /\ NoAttr K C f /\ fs.length < 1000 /\
  D.nx σ (upd H2 a (.ins C dx (putF f y fs)))
section
variable {X : Cx} {o e value : Expr} {f : Str} {pos pos' tpos : Pos} {ta tv : TE}
theorem pe_fld (he : PE X e ta) (hb : attributeBase e f X.env (eval e X.env) = eval e X.env) : PE X (.Attribute e f pos) (tFld X.K ta f) := by
  intro pins s σ H Q I h
  refine attr_of hb (thn (he pins s σ H _ I h) fun u s1 ⟨x, H1, I1, rx, a, C, dx, fs, v, ex, ea, c, n, l, q⟩ => ?_)
  subst ex
  obtain rfl : u = Value.ref a := rx
  exact getattr_ok I1 ea c n l fun u' s2 I2 ru => ⟨v, H1, I2, ru, q⟩
theorem ps_fld (ha : PE X o ta) (hv : PE X value tv) (hs : swapsWith value (some (.Attribute o f pos')) pos.line X.env = pure false) : PS X (.Assign [.Attribute o f pos'] value pos) (sFld X.K ta tv f) := by
  intro pins s σ H D I h
  refine plainObj_wpAny_Assign_Attribute (thn (hv pins s σ H _ I h) fun u s1 ⟨y, H1, I1, ry, q⟩ => thn (ha pins s1 σ H1 _ I1 q) fun ov s2 ⟨x, H2, I2, rx, a, C, dx, fs, ex, ea, c, n, l, q2⟩ => ?_) hs
  subst ex
  obtain rfl : ov = Value.ref a := rx
  exact setattr_ok I2 ea c n l ry fun s3 I3 => ⟨σ, _, I3, q2⟩
end
section
variable {X : Cx} {pins : List (Addr × Obj)} {σ : St} {H : Hp} {s : Shared} {A : Around} {E : Value -> Shared -> Prop} {Q : Value -> Shared -> Prop} {c : Value} {b : Bool}
inductive TyOf (K : PySem.W.Frag) (H : Hp) : V -> Value -> Prop where
  | non : TyOf K H .non (.type "NoneType")
  | bl (x : Bool) : TyOf K H (.bl x) (.type "bool")
  | int (i : Int) : TyOf K H (.int i) (.type "int")
  | str (x : Str) : TyOf K H (.str x) (.type "str")
  | flt (x : UInt64) : TyOf K H (.flt x) (.type "float")
  | lst {a : Addr} {xs : List V} (e : H a = some (.lst xs)) : TyOf K H (.ref a) (.type "list")
  | frz {a : Addr} {o : Obj} {xs : List V} (e : H a = some (.frz o (.lst xs))) : TyOf K H (.ref a) (.type "list")
  | tup {a : Addr} {xs : List V} (e : H a = some (.tup xs)) : TyOf K H (.ref a) (.type "tuple")
  | dK {a : Addr} {kvs : List (Key × V)} (e : H a = some (.dK kvs)) : TyOf K H (.ref a) (.type "dict")
  | dT {a : Addr} {kvs : List (List Key × V)} (e : H a = some (.dT kvs)) : TyOf K H (.ref a) (.type "dict")
  | ins {a C dx : Addr} {fs : List (Str × V)} (e : H a = some (.ins C dx fs)) (cl : Cls K C) (ha : PySem.W.findIn K (.ref C) "__class__" = some (some (.builtin "object.__class__")))
      (hn : PySem.W.specialIn K (.builtin "object.__class__") "__get__" = some (some (.builtin "getset_descriptor.__get__"))) (htk : PySem.W.takesIn K (.builtin "object.__class__") = some true)
      (hm : PySem.W.mroIn K C (.type "object") = some true) : TyOf K H (.ref a) (.ref C)
theorem isinst_ok {x : V} {u t : Value} (I : Inv X pins σ H s) (rx : RelV x u) (ty : TyOf X.K H x t) (e : PySem.W.kitOne X.K t c = some b) (h : ∀ tk, Q (.bool b) { s with toks := tk }) :
    wpAny (model X.prog X.w) A (call (.builtin "isinstance") [u, c]) Q E s := by
  cases ty with
  | non => cases (show u = Value.none from rx); exact PySem.W.kia_one PySem.W.kitx_none I.kIn True.intro e (fun z => nomatch z) h
  | bl y => cases (show u = Value.bool y from rx); exact PySem.W.kia_one PySem.W.kitx_bool I.kIn True.intro e (fun z => nomatch z) h
  | int i => obtain ⟨t, q⟩ := (show ∃ t, u = Value.int i t from rx); cases q; exact PySem.W.kia_one PySem.W.kitx_int I.kIn True.intro e (fun z => nomatch z) h
  | str y => obtain ⟨t, q⟩ := (show ∃ t, u = Value.str y t from rx); cases q; exact PySem.W.kia_one PySem.W.kitx_str I.kIn True.intro e (fun z => nomatch z) h
  | flt y => obtain ⟨t, q⟩ := (show ∃ t, u = Value.float y t from rx); cases q; exact PySem.W.kia_one PySem.W.kitx_float I.kIn True.intro e (fun z => nomatch z) h
  | @lst a xs ea =>
    cases (show u = Value.ref a from rx)
    obtain ⟨_, _, n, _, h1⟩ := (show ObjOk X.prog X.w H s.heap a (.lst xs) from I.hok a _ ea)
    exact PySem.W.kia_one PySem.W.kitx_list I.kIn ⟨_, h1, rfl⟩ e (fun z => nomatch z) h
  | @frz a ob xs ea =>
    cases (show u = Value.ref a from rx)
    obtain ⟨_, _, _, n, _, h1⟩ := (show ObjOk X.prog X.w H s.heap a (.frz ob (.lst xs)) from I.hok a _ ea)
    exact PySem.W.kia_one PySem.W.kitx_list I.kIn ⟨_, h1, rfl⟩ e (fun z => nomatch z) h
  | @tup a xs ea =>
    cases (show u = Value.ref a from rx)
    obtain ⟨_, _, _, p⟩ := (show ObjOk X.prog X.w H s.heap a (.tup xs) from I.hok a _ ea)
    obtain ⟨o, h1, h2, _⟩ := p
    exact PySem.W.kia_one PySem.W.kitx_tuple I.kIn ⟨o, h1, h2⟩ e (fun z => nomatch z) h
  | @dK a kvs ea =>
    cases (show u = Value.ref a from rx)
    obtain ⟨_, _, vs, _, p⟩ := (show ObjOk X.prog X.w H s.heap a (.dK kvs) from I.hok a _ ea)
    obtain ⟨o, es, ep, h1, h2, _⟩ := p
    exact PySem.W.kia_one PySem.W.kitx_dict I.kIn ⟨o, h1, h2.1⟩ e (fun z => nomatch z) h
  | @dT a kvs ea =>
    cases (show u = Value.ref a from rx)
    obtain ⟨_, _, xs, _, o, es, ep, h1, h2, _⟩ := (show ObjOk X.prog X.w H s.heap a (.dT kvs) from I.hok a _ ea)
    exact PySem.W.kia_one PySem.W.kitx_dict I.kIn ⟨o, h1, h2.1⟩ e (fun z => nomatch z) h
  | @ins a C dx fs ea cl ha hn htk hm =>
    cases (show u = Value.ref a from rx)
    obtain ⟨mA, O, _⟩ := ins_get I.hok ea
    obtain ⟨od, J, _⟩ := O.look
    exact PySem.W.kia_one (PySem.W.kitx_own (cl.get _) cl.hd ha hn htk hm) I.kIn J e (fun z => nomatch z) h
end
structure Room (k : Nat) (A : Around) : Prop where
  hd : A.handled = none
  dp : A.depth + 3 * k + 5 < recursionLimit
  un : A.units + 16 * k + 200 < cLine
theorem Room.mono {j k : Nat} {A : Around} (r : Room k A) (h : j <= k) : Room j A := ⟨r.hd, by have := r.dp; lia, by have := r.un; lia⟩
theorem Room.deeper {k : Nat} {A : Around} (r : Room (k + 1) A) (env : Env) : Room k (A.deeper env) :=
  ⟨r.hd, by have := r.dp; show A.depth + 1 + 3 * k + 5 < _; lia, by have := r.un; show A.units + 3 + 16 * k + 200 < _; lia⟩
theorem make_depth {A : Around} {C : Addr} {us : List Value} {kw : List (Str × Value)} : (A.under (.builtin "type.__call__" ⟨.ref C :: us, kw⟩)).depth = A.depth + 1 := by
  first | rfl | simp [Around.under, Code.weight, Code.isCreation, Code.isGuard, Code.isCaller, Code.frames, Code.isFrame, guardIds]
theorem make_units {A : Around} {C : Addr} {us : List Value} {kw : List (Str × Value)} : (A.under (.builtin "type.__call__" ⟨.ref C :: us, kw⟩)).units = A.units + 1 := by
  first | rfl | simp [Around.under, Code.cUnits, Code.frames, Code.isFrame]
theorem Room.make {k : Nat} {A : Around} (r : Room (k + 1) A) (C : Addr) (us : List Value) (kw : List (Str × Value)) : Room k (A.under (.builtin "type.__call__" ⟨.ref C :: us, kw⟩)) :=
  ⟨r.hd, by have := r.dp; rw [make_depth]; lia, by have := r.un; rw [make_units]; lia⟩
theorem Room.depth {k : Nat} {A : Around} (r : Room k A) : A.depth < recursionLimit := by have := r.dp; lia
def tNil : TA := fun _ H Q => Q [] H
def tCons (ta : TE) (tr : TA) : TA := fun σ H Q => ta σ H fun x H1 => tr σ H1 fun xs H2 => Q (x :: xs) H2
section
variable {X : Cx} {e : Expr} {es : List Expr} {te : TE} {t : TA} {pos : Pos}
theorem pa_nil : PA X [] tNil := fun _ _ _ _ H Q I h => Calls.spliced_nil ⟨[], H, I, .nil, h⟩
theorem pa_cons (ha : PE X e te) (hr : PA X es t) (hs : starEach (e :: es) X.env = (false, eval e X.env) :: starEach es X.env := by rfl) : PA X (e :: es) (tCons te t) := by
  intro pos pins s σ H Q I h
  rw [hs]
  show wpAny _ _ (spliced ((false, eval e X.env) :: backTo pos (starEach es X.env))) _ _ s
  refine Calls.spliced_cons (thn (ha pins s σ H _ I h) fun u s1 ⟨x, H1, I1, r1, q1⟩ => ?_)
  exact thn (hr pos pins s1 σ H1 _ I1 q1) fun us s2 ⟨xs, H2, I2, r2, q2⟩ => ⟨x :: xs, H2, I2, .cons r1 r2, q2⟩
def tTup (t : TA) : TE := fun σ H Q => t σ H fun xs H1 => xs.length <= sizeLine /\ ∀ p, H1 p = none -> Q (.ref p) (upd H1 p (.tup xs))
def tLst (t : TA) : TE := fun σ H Q => t σ H fun xs H1 => xs.length <= sizeLine /\ ∀ p, H1 p = none -> Q (.ref p) (upd H1 p (.lst xs))
theorem pe_tup {x1} (h : PA X es t) : PE X (.Tuple es x1 pos) (tTup t) := by
  intro pins s σ H Q I hq
  refine wpAny_Tuple_spliced (thn (h pos pins s σ H _ I hq) fun us s1 ⟨xs, H1, I1, r, z, q⟩ => ⟨by rw [<- r.length]; exact z, ?_⟩)
  have hf : H1 s1.heap.objs.size = none := I1.hok.fresh (Nat.le_refl _)
  refine ⟨.ref s1.heap.objs.size, upd H1 s1.heap.objs.size (.tup xs), I1.laid (t' := s1.toks) (fun b u e => Heap.get?_push_of_some _ e) (Nat.le_refl _) ?_, rfl, q _ hf⟩
  exact ⟨z, us, r, ⟨_, Heap.get?_push_size _ rfl, rfl, _, rfl⟩⟩
theorem pe_lst (h : PA X es t) : PE X (.List es pos) (tLst t) := by
  intro pins s σ H Q I hq
  refine wpAny_List_spliced (thn (h pos pins s σ H _ I hq) fun us s1 ⟨xs, H1, I1, r, z, q⟩ => ⟨by rw [<- r.length]; exact z, ?_⟩)
  have hf : H1 s1.heap.objs.size = none := I1.hok.fresh (Nat.le_refl _)
  refine ⟨.ref s1.heap.objs.size, upd H1 s1.heap.objs.size (.lst xs), I1.laid (t' := s1.toks) (fun b u e => Heap.get?_push_of_some _ e) (Nat.le_refl _) ?_, rfl, q _ hf⟩
  exact ⟨z, us, 0, r, Heap.get?_push_size _ rfl⟩
end
abbrev Sp := List V -> Hp -> VK -> XK -> Prop
abbrev CXT := List Env -> Hp -> Shared -> XK -> Value -> Shared -> Prop
structure Env0 (P : Program) (w : World) (K : PySem.W.Frag) (mg : Str -> Option Value) (base : Heap) (A : Around) (outer : List Env) (s : Shared) (H : Hp) : Prop where
  frames : A.frames = some outer
  mod : Mod K mg base
  bs : ∀ b o, base.get? b = some o -> s.heap.get? b = some o /\ H b = none
  bsz : base.objs.size <= s.heap.objs.size
  funs : s.heap.FunFrames base outer
  frf : ∀ b ∈ frs outer, H b = none
  hok : HOk P w H s.heap
  bare : AllBare s.gens
def CE (outer : List Env) (P : Program) (w : World) (H : Hp) (s : Shared) (Q : VK) (u : Value) (s' : Shared) : Prop :=
  ∃ v H', s'.os = s.os /\ AllBare s'.gens /\ Un (frs outer) [] H H' s.heap s'.heap /\ HOk P w H' s'.heap /\ RelV v u /\ Q v H'
def CR (CX : CXT) (outer : List Env) (P : Program) (w : World) (H : Hp) (s : Shared) (Q : VK) (E : XK) (r : Result) (s' : Shared) : Prop :=
  match r with
  | .ok (.ret u) => CE outer P w H s Q u s'
  | .ok _ => False
  | .error e => CX outer H s E e s'
structure FnOk (P : Program) (w : World) (K : PySem.W.Frag) (mg : Str -> Option Value) (base : Heap) (CX : CXT) (k : Nat) (f : Addr) (fd : FuncData) (ps : List Str) (sp : Sp) : Prop where
  len : ∀ vs H Q E, sp vs H Q E -> vs.length = ps.length
  run : ∀ (A : Around) (outer : List Env) (s : Shared) (H : Hp) (args : Args) (us : List Value) (vs : List V) (Q : VK) (E : XK), Room k A -> Env0 P w K mg base A outer s H -> BindsTo s fd args (ps.zip us) -> Vals vs us -> sp vs H Q E ->
    codeAny (model P w) A (.call (.ref f) args) (CR CX outer P w H s Q E) s
theorem FnOk.mono {P : Program} {w : World} {K : PySem.W.Frag} {mg : Str -> Option Value} {base : Heap} {CX : CXT} {j k : Nat} {f : Addr} {fd : FuncData} {ps : List Str} {sp : Sp} (F : FnOk P w K mg base CX j f fd ps sp) (h : j <= k) :
    FnOk P w K mg base CX k f fd ps sp := ⟨F.len, fun A outer s H args us vs Q E hr => F.run A outer s H args us vs Q E (hr.mono h)⟩
theorem Env0.make {P : Program} {w : World} {K : PySem.W.Frag} {mg : Str -> Option Value} {base : Heap} {A : Around} {outer : List Env} {s : Shared} {H : Hp} (e : Env0 P w K mg base A outer s H) (C : Addr) (us : List Value) (kw : List (Str × Value)) :
    Env0 P w K mg base (A.under (.builtin "type.__call__" ⟨.ref C :: us, kw⟩)) outer s H := ⟨by first | exact e.frames | (simpa [Around.under, Code.envs, Code.isFrame, pushEnvs] using e.frames), e.mod, e.bs, e.bsz, e.funs, e.frf, e.hok, e.bare⟩
section
variable {X : Cx} {pins : List (Addr × Obj)} {σ : St} {H : Hp} {s s' : Shared}
theorem Inv.env0 (I : Inv X pins σ H s) : Env0 X.prog X.w X.K X.mg X.base X.A X.stack s H :=
  ⟨I.ok.frames, I.ok.mod, I.bs, Nat.le_trans I.ok.bsz I.sz, I.stack, I.stkFree, I.hok, I.bare⟩
theorem Inv.after {Q : VK} {u : Value} (I : Inv X pins σ H s) (h : CE X.stack X.prog X.w H s Q u s') : EP X pins σ Q u s' := by
  obtain ⟨v, H', os, bare, un, hok, r, q⟩ := h
  obtain ⟨hh, g, d, t, os'⟩ := s'
  obtain rfl : os' = s.os := os
  exact ⟨v, H', I.call (h' := hh) (g' := g) (d' := d) (t' := t) (ch := []) un hok bare (fun b z => absurd z (by simp)), r, q⟩
end
def tCall (sp : Sp) (dvs : List V) (E : XK) (t : TA) : TE := fun σ H Q => t σ H fun vs H1 => sp (vs ++ dvs) H1 Q E
def tMake (C : Addr) (sp : Sp) (dvs : List V) (E : XK) (t : TA) : TE := fun σ H Q => t σ H fun vs H1 => ∀ x dx, H1 x = none -> H1 dx = none -> dx ≠ x ->
  sp (.ref x :: (vs ++ dvs)) (upd (upd H1 dx (.own x)) x (.ins C dx [])) (fun v H2 => v = .non /\ Q (.ref x) H2) E
def Binds (K : PySem.W.Frag) (fd : FuncData) (ps : List Str) (ds : List Value) : Prop :=
  ∀ (s : Shared) (us : List Value), K.In s.heap -> (us ++ ds).length = ps.length -> BindsTo s fd ⟨us, []⟩ (ps.zip (us ++ ds))
theorem Binds.all {K : PySem.W.Frag} {fd : FuncData} {ps : List Str} (h : ∀ us : List Value, us.length = ps.length -> bindArgs fd ⟨us, []⟩ = pure (ps.zip us)) : Binds K fd ps [] := fun s us _ hl => by
  rw [List.append_nil] at hl ⊢
  exact .of_eq (h us hl)
def Passes (CX : CXT) (X : Cx) (E : XK) : Prop := ∀ (pins : List (Addr × Obj)) (σ : St) (H : Hp) (s : Shared) (e : Value) (s' : Shared), Inv X pins σ H s -> CX X.stack H s E e s' -> X.xe e s'
section
variable {X : Cx} {CX : CXT} {k : Nat} {f C : Addr} {fd : FuncData} {ps : List Str} {sp : Sp} {dvs : List V} {ds : List Value} {E : XK} {x m : Str} {p pos apos : Pos} {e o : Expr} {es : List Expr} {ta : TE} {t : TA}
theorem run_fn {pins : List (Addr × Obj)} {σ : St} {H : Hp} {s : Shared} {Q : VK} {us : List Value} {vs : List V} (F : FnOk X.prog X.w X.K X.mg X.base CX k f fd ps sp) (hr : Room k X.A) (hb : Binds X.K fd ps ds) (hd : Vals dvs ds) (hx : Passes CX X E)
    (I : Inv X pins σ H s) (r : Vals vs us) (h : sp (vs ++ dvs) H Q E) : wpAny (model X.prog X.w) X.A (call (.ref f) us) (EP X pins σ Q) X.xe s := by
  have r2 : Vals (vs ++ dvs) (us ++ ds) := r.append hd
  have hl : (us ++ ds).length = ps.length := by rw [<- r2.length]; exact F.len _ _ _ _ h
  refine wpAny_call (codeAny_mono (F.run X.A X.stack s H ⟨us, []⟩ (us ++ ds) (vs ++ dvs) Q E hr I.env0 (hb s us I.kIn hl) r2 h) fun r s' hq => ?_)
  cases r with
  | error e => exact hx pins σ H s e s' I hq
  | ok fl =>
    cases fl with
    | ret u => exact I.after hq
    | next => exact False.elim hq
    | brk => exact False.elim hq
    | cont => exact False.elim hq
theorem pe_call (F : FnOk X.prog X.w X.K X.mg X.base CX k f fd ps sp) (hr : Room k X.A) (hg : Gl X x) (hm : X.mg x = some (.ref f)) (hk : PySem.W.keepIn X.K (.ref f) = true) (hb : Binds X.K fd ps ds) (hd : Vals dvs ds) (hx : Passes CX X E)
    (ha : PA X (e :: es) t) (hdb : (x == ("__debug__" : Str)) = false := by decide) (he : starEach (e :: es) X.env = (false, eval e X.env) :: starEach es X.env := by rfl) (hpl : (backTo pos (starEach es X.env)).any (·.1) = false := by rfl) :
    PE X (.Call (.Name x p) (e :: es) [] pos) (tCall sp dvs E t) := by
  intro pins s σ H Q I h
  refine wpAny_Call_Name_kw (ld_glob I hg hm ?_ hdb)
  refine PySem.W.callWith_K (h₀ := X.base) I.ok.mod.kin hk (thn (ha pos pins s σ H _ I h) fun us s1 ⟨vs, H1, I1, r, q⟩ => ⟨I1.kIn, ?_⟩) he hpl
  exact run_fn F hr hb hd hx I1 r q
structure Mk (K : PySem.W.Frag) (C f : Addr) : Prop where
  makes : PySem.W.makesIn K C = true
  init : PySem.W.findIn K (.ref C) "__init__" = some (some (.ref f))
  fn : PySem.W.isFn K (.ref f) = true
  kp : PySem.W.keepIn K (.ref C) = true
theorem run_make {pins : List (Addr × Obj)} {σ : St} {H : Hp} {s : Shared} {Q : VK} {us : List Value} {vs : List V} (M : Mk X.K C f) (F : FnOk X.prog X.w X.K X.mg X.base CX k f fd ps sp) (hr : Room (k + 1) X.A) (hb : Binds X.K fd ps ds) (hd : Vals dvs ds)
    (hx : Passes CX X E) (I : Inv X pins σ H s) (r : Vals vs us)
    (h : ∀ x dx, H x = none -> H dx = none -> dx ≠ x -> sp (.ref x :: (vs ++ dvs)) (upd (upd H dx (.own x)) x (.ins C dx [])) (fun v H2 => v = .non /\ Q (.ref x) H2) E) :
    wpAny (model X.prog X.w) X.A (call (.ref C) us) (EP X pins σ Q) X.xe s := by
  have hq := h (s.heap.objs.size + 1) s.heap.objs.size (I.hok.fresh (Nat.le_succ _)) (I.hok.fresh (Nat.le_refl _)) (Nat.ne_of_lt (Nat.lt_succ_self _))
  have I2 := Inv.made (C := C) I
  have r2 : Vals (V.ref (s.heap.objs.size + 1) :: (vs ++ dvs)) (Value.ref (s.heap.objs.size + 1) :: (us ++ ds)) := .cons rfl (r.append hd)
  have hl : (Value.ref (s.heap.objs.size + 1) :: us ++ ds).length = ps.length := by
    have e := r2.length
    rw [F.len _ _ _ _ hq] at e
    exact e.symm
  refine wpAny_call (make_map (f := f) I.kIn M.makes M.init (beq_iff_eq.mp M.fn) (codeAny_mono (F.run _ X.stack _ _ ⟨Value.ref (s.heap.objs.size + 1) :: us, []⟩ (Value.ref (s.heap.objs.size + 1) :: (us ++ ds)) _ _ E (hr.make C us [])
    (I2.env0.make C us []) (hb _ (Value.ref (s.heap.objs.size + 1) :: us) I2.kIn hl) r2 hq) fun r s' hq' => ?_))
  cases r with
  | error e => exact hx pins σ _ _ e s' I2 hq'
  | ok fl =>
    cases fl with
    | ret u =>
      obtain ⟨v, H', I3, rv, ev, q3⟩ := I2.after hq'
      subst ev
      exact ⟨rv, ⟨V.ref (s.heap.objs.size + 1), H', I3, rfl, q3⟩⟩
    | next => exact False.elim hq'
    | brk => exact False.elim hq'
    | cont => exact False.elim hq'
theorem pe_make (M : Mk X.K C f) (F : FnOk X.prog X.w X.K X.mg X.base CX k f fd ps sp) (hr : Room (k + 1) X.A) (hg : Gl X x) (hm : X.mg x = some (.ref C)) (hb : Binds X.K fd ps ds) (hd : Vals dvs ds) (hx : Passes CX X E)
    (ha : PA X (e :: es) t) (hdb : (x == ("__debug__" : Str)) = false := by decide) (he : starEach (e :: es) X.env = (false, eval e X.env) :: starEach es X.env := by rfl) (hpl : (backTo pos (starEach es X.env)).any (·.1) = false := by rfl) :
    PE X (.Call (.Name x p) (e :: es) [] pos) (tMake C sp dvs E t) := by
  intro pins s σ H Q I h
  refine wpAny_Call_Name_kw (ld_glob I hg hm ?_ hdb)
  refine PySem.W.callWith_K (h₀ := X.base) I.ok.mod.kin M.kp (thn (ha pos pins s σ H _ I h) fun us s1 ⟨vs, H1, I1, r, q⟩ => ⟨I1.kIn, ?_⟩) he hpl
  exact run_make M F hr hb hd hx I1 r q
end
section
variable {X : Cx} {CX : CXT} {k : Nat} {f C : Addr} {fd : FuncData} {ps ks : List Str} {sp : Sp} {E : XK} {x m : Str} {p pos apos kpos : Pos} {e o : Expr} {es : List Expr} {kws : List Keyword} {te ta : TE} {t tk : TA} {nm : Option Str}
variable {g : List Value -> List Value -> List Value} {gV : List V -> List V -> List V}
end
structure FnScope (N P : List Str) (sc : Scope) : Prop where
  kind : sc.kind = .function
  co : sc.isCoroutine = false
  gen : sc.isGenerator = false
  nd : N.Nodup
  pre : N.take P.length = P
  par : ∀ x ∈ P, sc.names.lookup x = some .local \/ sc.names.lookup x = some .cell
  nofree : ∀ y ∈ sc.names, y.2 ≠ .free
theorem bindL_out {kindOf : Str -> Option NameKind} {x : Str} : ∀ {binds : List (Str × Value)} {m : Str -> Option Value}, (∀ v, (x, v) ∉ binds) -> bindL kindOf binds m x = m x
  | [], _, _ => rfl
  | (n, v) :: r, m, h => by
    unfold bindL
    rw [bindL_out fun w hw => h w (List.mem_cons_of_mem _ hw)]
    split
    · have : x ≠ n := by rintro rfl; exact h v List.mem_cons_self
      simp [this]
    · rfl
theorem bindC_out {kindOf : Str -> Option NameKind} {x : Str} : ∀ {binds : List (Str × Value)} {m : Str -> Option Value}, (∀ v, (x, v) ∉ binds) -> bindC kindOf binds m x = m x
  | [], _, _ => rfl
  | (n, v) :: r, m, h => by
    unfold bindC
    rw [bindC_out fun w hw => h w (List.mem_cons_of_mem _ hw)]
    split
    · rfl
    · have : x ≠ n := by rintro rfl; exact h v List.mem_cons_self
      simp [this]
theorem bindL_get {kindOf : Str -> Option NameKind} {x : Str} {v : Value} : ∀ {P : List Str} {vs : List Value} {i : Nat} {m : Str -> Option Value}, P.Nodup -> P[i]? = some x -> vs[i]? = some v -> kindOf x = some .local ->
    bindL kindOf (P.zip vs) m x = some v
  | [], _, _, _, _, h, _, _ => by simp at h
  | _ :: _, [], _, _, _, _, h, _ => by simp at h
  | p :: P, w :: vs, 0, m, nd, h1, h2, hk => by
    simp at h1 h2; subst h1; subst h2
    show bindL kindOf ((p, w) :: P.zip vs) m p = _
    unfold bindL
    rw [bindL_out fun v hv => (List.nodup_cons.mp nd).1 (List.of_mem_zip hv).1, if_pos hk]
    simp
  | p :: P, w :: vs, i + 1, m, nd, h1, h2, hk => by
    show bindL kindOf ((p, w) :: P.zip vs) m x = _
    unfold bindL
    exact bindL_get (i := i) (List.nodup_cons.mp nd).2 (by simpa using h1) (by simpa using h2) hk
theorem bindC_get {kindOf : Str -> Option NameKind} {x : Str} {v : Value} : ∀ {P : List Str} {vs : List Value} {i : Nat} {m : Str -> Option Value}, P.Nodup -> P[i]? = some x -> vs[i]? = some v -> kindOf x ≠ some .local ->
    bindC kindOf (P.zip vs) m x = some v
  | [], _, _, _, _, h, _, _ => by simp at h
  | _ :: _, [], _, _, _, _, h, _ => by simp at h
  | p :: P, w :: vs, 0, m, nd, h1, h2, hk => by
    simp at h1 h2; subst h1; subst h2
    show bindC kindOf ((p, w) :: P.zip vs) m p = _
    unfold bindC
    rw [bindC_out fun v hv => (List.nodup_cons.mp nd).1 (List.of_mem_zip hv).1, if_neg hk]
    simp
  | p :: P, w :: vs, i + 1, m, nd, h1, h2, hk => by
    show bindC kindOf ((p, w) :: P.zip vs) m x = _
    unfold bindC
    exact bindC_get (i := i) (List.nodup_cons.mp nd).2 (by simpa using h1) (by simpa using h2) hk
def start (N : List Str) (vs : List V) : St := vs.map some ++ List.replicate (N.length - vs.length) none
def cxOf (CX : CXT) (P : Program) (w : World) (K : PySem.W.Frag) (mg : Str -> Option Value) (base : Heap) (N : List Str) (qual : Str) (scope : Scope) (f : Addr) (cd : Value) (A : Around) (outer : List Env) (s : Shared) (H : Hp) (E : XK) : Cx where
  prog := P
  w := w
  K := K
  mg := mg
  base := base
  A := A.deeper (envOfC qual scope s.heap.objs.size f cd)
  N := N
  s₀ := s
  H₀ := H
  env := envOfC qual scope s.heap.objs.size f cd
  outer := outer
  stack := envOfC qual scope s.heap.objs.size f cd :: outer
  ex := []
  calm := true
  fn := fun _ => true
  pn := []
  xe := fun e s' => wpAny (model P w) (A.deeper (envOfC qual scope s.heap.objs.size f cd)) (leaving (envOfC qual scope s.heap.objs.size f cd) e) (fun _ s'' => CX outer H s E e s'') (fun e' s'' => CX outer H s E e' s'') s'
theorem cell_has {sc : Scope} {n : Nat} {x : Str} (h : sc.names.lookup x = some .cell) : ∃ c, (cellsFrom n sc.names []).lookup x = some c := by
  have q := PySem.W.cellsFrom_some sc.names n [] (.inl h)
  exact Option.isSome_iff_exists.mp q
theorem inv_start {CX : CXT} {P : Program} {w : World} {K : PySem.W.Frag} {mg : Str -> Option Value} {base : Heap} {N ps : List Str} {qual : Str} {scope : Scope} {f : Addr} {cd : Value} {A : Around} {outer : List Env} {s s1 : Shared} {H : Hp} {E : XK} {us : List Value} {vs : List V}
    (S : FnScope N ps scope) (hd : A.handled = none) (e0 : Env0 P w K mg base A outer s H) (hl : vs.length = ps.length) (r : Vals vs us)
    (x : InCallC s s.heap.objs.size (bindL (envOfC qual scope s.heap.objs.size f cd).kindOf (ps.zip us) fun _ => none) (cellsFrom (s.heap.objs.size + 1) scope.names []) (bindC (envOfC qual scope s.heap.objs.size f cd).kindOf (ps.zip us) fun _ => none) s1) :
    Inv (cxOf CX P w K mg base N qual scope f cd A outer s H E) [] (start N vs) H s1 := by
  have hpl : ps.length <= N.length := by have := congrArg List.length S.pre; rw [List.length_take] at this; lia
  obtain ⟨h1, tk, rfl, hk⟩ := x.done
  have noA : ∀ b : Addr, b ∉ (cxOf CX P w K mg base N qual scope f cd A outer s H E).ex := fun b z => absurd (show b ∈ ([] : List Addr) from z) (by simp)
  refine ⟨⟨e0.mod, S.kind, rfl, rfl, Nat.le_refl _, fun y z c h1 h2 => ?_, fun y hy => ?_, fun y c _ h => ?_, fun _ => hd, Around.frames_deeper e0.frames, .inr ⟨rfl, rfl⟩, fun b z => absurd z (noA b), e0.bs, e0.bsz, fun b _ _ => noA b, fun b z => absurd z (noA b), e0.funs, e0.frf⟩,
    rfl, e0.bare, Un.kept hk, ⟨_, x.toInCall.ns, fun i y v h1 h2 h3 => ?_⟩, fun y c h => ⟨_, x.cell y c h⟩, e0.hok.fresh (Nat.le_refl _), fun y c h => ?_, fun p hp => absurd (show p ∈ ([] : List (Addr × Obj)) from hp) (by simp), e0.hok.kept hk, ?_⟩
  · exact name_of_addr x.apart (PySem.mem_of_lookup h1) (PySem.mem_of_lookup h2)
  · have hy : scope.names.lookup y = some .cell \/ scope.names.lookup y = some .free := hy
    rcases hy with hy | hy
    · exact cell_has hy
    · exact absurd rfl (S.nofree _ (PySem.mem_of_lookup hy))
  · exact Nat.le_of_lt (x.above y c (PySem.mem_of_lookup h))
  · have hi : i < vs.length := by
      unfold start at h2
      by_cases hi : i < vs.length
      · exact hi
      · rw [List.getElem?_append_right (by simpa using hi)] at h2
        rw [List.getElem?_replicate] at h2
        split at h2 <;> cases h2
    have ha : vs[i]? = some v := by
      unfold start at h2
      rw [List.getElem?_append_left (by simpa using hi), List.getElem?_map] at h2
      cases e : vs[i]? with
      | none => rw [e] at h2; cases h2
      | some a => rw [e] at h2; cases h2; rfl
    obtain ⟨u, hu, rv⟩ := r.get ha
    have hp : ps[i]? = some y := by
      rw [<- S.pre, List.getElem?_take_of_lt (by lia)]; exact h1
    have ndP : ps.Nodup := by rw [<- S.pre]; exact S.nd.sublist (List.take_sublist _ _)
    refine ⟨u, rv, ?_⟩
    rcases S.par y (List.mem_of_getElem? hp) with k | k
    · exact .inl ⟨k, bindL_get ndP hp hu k⟩
    · obtain ⟨c, e⟩ := cell_has (n := s.heap.objs.size + 1) k
      refine .inr ⟨.inl k, c, e, ?_⟩
      have q := x.cell y c e
      rw [bindC_get ndP hp hu (by show scope.names.lookup y ≠ _; rw [k]; decide)] at q
      exact q
  · exact e0.hok.fresh (Nat.le_of_lt (x.above y c (PySem.mem_of_lookup h)))
  · unfold start
    show _ = N.length
    rw [List.length_append, List.length_map, List.length_replicate]
    lia
theorem fn_of {CX : CXT} {P : Program} {w : World} {K : PySem.W.Frag} {mg : Str -> Option Value} {base : Heap} {k : Nat} {f : Addr} {name qual : Str} {params : Arguments} {body : List Stmt} {scope : Scope} {dV kV doc pm cdv ct oc : Value} {an od : Option Addr}
    {osl : Array (Option Value)} {N ps : List Str} {sp : Sp} (lk : K.lookup f = some ⟨oc, od, .func (PySem.W.fnOf name qual params body scope dV kV doc pm an cdv ct), osl⟩) (hcd : PySem.W.codeIn K cdv qual = true) (S : FnScope N ps scope)
    (len : ∀ vs H Q E, sp vs H Q E -> vs.length = ps.length)
    (hbody : ∀ (A : Around) (outer : List Env) (s : Shared) (H : Hp) (vs : List V) (Q : VK) (E : XK), Room k (A.deeper (envOfC qual scope s.heap.objs.size f cdv)) -> sp vs H Q E ->
      ∃ t, PSs (cxOf CX P w K mg base N qual scope f cdv A outer s H E) body t /\ t { nx := fun _ H' => Q .non H', rt := Q } (start N vs) H) :
    FnOk P w K mg base CX (k + 1) f (PySem.W.fnOf name qual params body scope dV kV doc pm an cdv ct) ps sp := by
  refine ⟨len, fun A outer s H args us vs Q E hr e0 hb r hsp => ?_⟩
  have hl := len _ _ _ _ hsp
  have KX : K.In s.heap := e0.mod.kin.keeps fun b o e => (e0.bs b o e).1
  have lim : s.heap.NoLimit := e0.mod.nolimit.keeps fun b o e => (e0.bs b o e).1
  have hkind : ∀ y ∈ ps.zip us, scope.names.lookup y.1 = some .local \/ (scope.names.lookup y.1 = some .cell /\ ((cellsFrom (s.heap.objs.size + 1) scope.names []).lookup y.1).isSome = true) := fun ⟨n, v⟩ hy => by
    rcases S.par n (List.of_mem_zip hy).1 with q | q
    · exact .inl q
    · exact .inr ⟨q, PySem.W.cellsFrom_some _ _ _ (.inl q)⟩
  refine codeAny_call_function hr.depth (KX _ _ lk) rfl S.co S.gen rfl (PySem.W.codeRec_of KX hcd) (hb _ _ _ _ ?_)
  refine wpAny_newFunctionEnv_cells S.kind hkind fun env he s1 x => ?_
  subst he
  refine ⟨lim.keeps x.toInCall.keep, codeAny_func ?_⟩
  obtain ⟨t, ht, hq⟩ := hbody A outer s H vs Q E (hr.deeper _) hsp
  have I : Inv (cxOf CX P w K mg base N qual scope f cdv A outer s H E) [] (start N vs) H s1 := inv_start S hr.hd e0 hl r x
  refine wpAny_mono (ht [] s1 (start N vs) H _ I hq) (fun fl s' hs => ?_) fun e s' hs => hs
  have fin : ∀ {σ' : St} {H' : Hp} {v : V} {u : Value}, Inv (cxOf CX P w K mg base N qual scope f cdv A outer s H E) [] σ' H' s' -> RelV v u -> Q v H' -> CE outer P w H s Q u s' :=
    fun {σ' H' v u} J rv q => ⟨v, H', J.os, J.bare, J.base, J.hok, rv, q⟩
  cases fl with
  | ret u =>
    obtain ⟨v, σ', H', J, rv, q⟩ := hs
    exact fin J rv q
  | next =>
    obtain ⟨σ', H', J, q⟩ := hs
    exact fin (v := V.non) (u := Value.none) J rfl q
  | brk =>
    obtain ⟨_, _, _, q⟩ := hs
    exact False.elim q
  | cont =>
    obtain ⟨_, _, _, q⟩ := hs
    exact False.elim q
section
variable {X : Cx} {x : Str} {p pos : Pos} {e : Expr} {es : List Expr} {t : TA} {id T : String} {r : List V -> Hp -> VK -> Prop}
def tCB (r : List V -> Hp -> VK -> Prop) (t : TA) : TE := fun σ H Q => t σ H fun vs H1 => r vs H1 Q
theorem pe_callB (hc : CallR X (.builtin id) r) (hg : Gl X x) (hm : X.mg x = none) (hv : bootBuiltins x = some (.builtin id)) (ha : PA X (e :: es) t) (hn : x ≠ "__name__" := by decide) (hdb : (x == ("__debug__" : Str)) = false := by decide)
    (he : starEach (e :: es) X.env = (false, eval e X.env) :: starEach es X.env := by rfl) (hpl : (backTo pos (starEach es X.env)).any (·.1) = false := by rfl) : PE X (.Call (.Name x p) (e :: es) [] pos) (tCB r t) := by
  intro pins s σ H Q I h
  refine wpAny_Call_Name_kw (ld_blt I hg hm hv ?_ hn hdb)
  exact PyProof.Rows.callWith_builtin1 (thn (ha pos pins s σ H _ I h) fun us s1 ⟨vs, H1, I1, r1, q1⟩ => hc pins s1 σ H1 vs us Q I1 r1 q1) he hpl
theorem pe_callTy (hc : CallR X (.type T) r) (hg : Gl X x) (hm : X.mg x = none) (hv : bootBuiltins x = some (.type T)) (ha : PA X (e :: es) t) (hn : x ≠ "__name__" := by decide) (hdb : (x == ("__debug__" : Str)) = false := by decide)
    (he : starEach (e :: es) X.env = (false, eval e X.env) :: starEach es X.env := by rfl) (hpl : (backTo pos (starEach es X.env)).any (·.1) = false := by rfl) : PE X (.Call (.Name x p) (e :: es) [] pos) (tCB r t) := by
  intro pins s σ H Q I h
  refine wpAny_Call_Name_kw (ld_blt I hg hm hv ?_ hn hdb)
  exact PyProof.Rows.callWith_type1 (thn (ha pos pins s σ H _ I h) fun us s1 ⟨vs, H1, I1, r1, q1⟩ => hc pins s1 σ H1 vs us Q I1 r1 q1) he hpl
end
end L2
namespace HT
open PySem PyProof.Rows
def lexLt : List Int -> List Int -> Bool
  | [], [] => false
  | [], _ :: _ => true
  | _ :: _, [] => false
  | x :: xs, y :: ys => if x = y then lexLt xs ys else decide (x < y)
theorem lexLt_cons (x y : Int) (xs ys : List Int) : lexLt (x :: xs) (y :: ys) = if x = y then lexLt xs ys else decide (x < y) := rfl
theorem lexLt_nil_nil : lexLt [] [] = false := rfl
theorem lexLt_nil_cons (y : Int) (ys : List Int) : lexLt [] (y :: ys) = true := rfl
theorem lexLt_cons_nil (x : Int) (xs : List Int) : lexLt (x :: xs) [] = false := rfl
theorem eqAt_int (A : Around) (s : Shared) (a : Int) (t : Tok) (c : Int) (u : Tok) : ∃ e, SeqAt.EqAt A s (.int a t) (.int c u) e /\ (e = true ↔ a = c) :=
  ⟨(a == c), SeqAt.EqAt.int_int a t c u, by simp⟩
theorem rcLt_int (A : Around) (s : Shared) (a : Int) (t : Tok) (c : Int) (u : Tok) (prog : Program) (w : World) (E : Value -> Shared -> Prop) (Q : Value -> Shared -> Prop) (h : Q (.bool (decide (a < c))) s) :
    wpAny (model prog w) A (richCompare .Lt (.int a t) (.int c u)) Q E s :=
  (PyProof.Rows.lt_int h : wpAny (model prog w) A (compareOp .Lt (.int a t) (.int c u)) Q E s)
section
open PySem.SeqAt
open PySem.AutoSeq1 (wpAny_loadPart')
open PySem.MeetsSeq PySem.MeetsSeq2 PySem.MeetsSeq3
theorem tuple_lt_ints (l b : Addr) (items items2 : Array Value) (n n2 : Nat) (dd dd2 : Option Addr) (sl sl2 : Array (Option Value)) (ns ms : List Int) (hi : IntsAre items.toList ns) (hj : IntsAre items2.toList ms) :
    Meets (Builtin.«tuple.__lt__» ⟨[.ref l, .ref b], []⟩)
      (fun _ R s => s.heap.get? l = some { cls := .type "tuple", dict := dd, data := .seq items n, slots := sl } /\ s.heap.get? b = some { cls := .type "tuple", dict := dd2, data := .seq items2 n2, slots := sl2 } /\
        R (.ok (.ret (.bool (lexLt ns ms)))) s) :=
  .of_wp fun prog w A R s h => by
    obtain ⟨hp, g, d, tk, os⟩ := s; obtain ⟨hl, hb, h⟩ := h
    have f2 := AutoSeq1.sub_tuple_tuple
    have z1 : items.size = ns.length := by rw [<- hi.length]; simp
    have z2 : items2.size = ms.length := by rw [<- hj.length]; simp
    wp_walk using wpAny_loadPart' hl, wpAny_loadPart' hb, wpAny_forIn_list _ (fun rest b s' => b.1 = none /\ s' = ⟨hp, g, d, tk, os⟩ /\ ∃ (vs ws : List Value) (ns' ms' : List Int), rest = vs.zip ws /\
      IntsAre vs ns' /\ IntsAre ws ms' /\ ns'.length + items2.size = ms'.length + items.size /\ R (.ok (.ret (.bool (lexLt ns' ms')))) ⟨hp, g, d, tk, os⟩) _
    case turn =>
      rintro ⟨y, x⟩ rest b s' ⟨hb', rfl, vs, ws, ns', ms', hz, hvi, hwi, hlen, hR⟩
      cases hvi with
      | nil => rw [List.zip_nil_left] at hz; cases hz
      | cons a t hvi' =>
        cases hwi with
        | nil => rw [List.zip_nil_right] at hz; cases hz
        | cons c u hwi' =>
          rw [List.zip_cons_cons] at hz
          injection hz with hyx hrest
          injection hyx with hy hx
          subst hy hx
          rw [lexLt_cons] at hR
          simp only [List.length_cons] at hlen
          obtain ⟨e, he, hiff⟩ := eqAt_int A.in1 ⟨hp, g, d, tk, os⟩ a t c u
          refine wpAny_bind (he prog w _ _ ?_)
          cases e with
          | true =>
            rw [if_pos (hiff.mp rfl)] at hR
            wp_walk
            exact ⟨rfl, rfl, _, _, _, _, hrest, hvi', hwi', by lia, hR⟩
          | false =>
            rw [if_neg (fun q => absurd (hiff.mpr q) Bool.false_ne_true)] at hR
            have hri := rcLt_int A.in1 ⟨hp, g, d, tk, os⟩ a t c u prog w
            wp_walk using hri
            exact ⟨_, rfl, by simpa using hR⟩
    case fin =>
      rintro ⟨b1, b2⟩ s' ⟨hb', rfl, vs, ws, ns', ms', hz, hvi, hwi, hlen, hR⟩
      simp only at hb'
      subst hb'
      have hv : lexLt ns' ms' = decide (items.size < items2.size) := by
        cases hvi with
        | nil =>
          cases hwi with
          | nil =>
            simp only [List.length_nil] at hlen
            rw [lexLt_nil_nil]
            exact (decide_eq_false (by lia)).symm
          | cons c u hw =>
            simp only [List.length_nil, List.length_cons] at hlen
            rw [lexLt_nil_cons]
            exact (decide_eq_true (by lia)).symm
        | cons a t hv =>
          cases hwi with
          | nil =>
            simp only [List.length_nil, List.length_cons] at hlen
            rw [lexLt_cons_nil]
            exact (decide_eq_false (by lia)).symm
          | cons c u hw =>
            rw [List.zip_cons_cons] at hz
            cases hz
      rw [hv] at hR
      wp_walk
      exact ⟨_, rfl, by simpa [Builtin.Tuple.tupleCompareSizes] using hR⟩
    case h =>
      exact ⟨rfl, rfl, items.toList, items2.toList, ns, ms, rfl, hi, hj, by lia, h⟩
end
section
variable {prog : Program} {w : World} {A : Around} {E : Value -> Shared -> Prop} {s : Shared}
theorem lt_tupInts {l b : Addr} {items items2 : Array Value} {ns ms : List Int} {Q : Value -> Shared -> Prop} (hl : IsTup s.heap l items) (hb : IsTup s.heap b items2) (hi : IntsAre items.toList ns) (hj : IntsAre items2.toList ms)
    (hu : A.units < cLine) (h : Q (.bool (lexLt ns ms)) s) : wpAny (model prog w) A (compareOp .Lt (.ref l) (.ref b)) Q E s := by
  obtain ⟨⟨cls, dd, data, sl⟩, ho, hc, n, hd⟩ := id hl
  obtain ⟨⟨cls2, dd2, data2, sl2⟩, ho2, hc2, n2, hd2⟩ := id hb
  simp only at hc hd hc2 hd2
  subst hc hd hc2 hd2
  exact richCompare_meets_room (op := .Lt) ⟨_, ho, rfl⟩ ⟨_, ho2, rfl⟩ PySem.F.slot_tuple_lt PySem.F.entry_tuple_lt (PySem.F.args_tuple_lt_2 _ _) (tuple_lt_ints l b items items2 n n2 dd dd2 sl sl2 ns ms hi hj)
    ⟨ho, ho2, show Value.bool (lexLt ns ms) ≠ Value.notImplemented /\ Q (.bool (lexLt ns ms)) s from ⟨(fun x => nomatch x), h⟩⟩ hu
theorem cat_tup {t b : Addr} {vs ws : List Value} {Q : Value -> Shared -> Prop} (ht : IsTup s.heap t vs.toArray) (hb : IsTup s.heap b ws.toArray) (hv : vs ≠ [])
    (h1 : ws = [] -> Q (.ref t) s) (h2 : ws ≠ [] -> Q (.ref s.heap.objs.size) { s with heap := s.heap.push { cls := .type "tuple", data := .seq (vs ++ ws).toArray } })
    (hsz : vs.length + ws.length <= sizeLine) : wpAny (model prog w) A (binaryOp .Add (.ref t) (.ref b)) Q E s := by
  obtain ⟨⟨cls, dd, data, sl⟩, ho, hc, n, hd⟩ := id ht
  obtain ⟨⟨cls2, dd2, data2, sl2⟩, ho2, hc2, n2, hd2⟩ := id hb
  simp only at hc hd hc2 hd2
  subst hc hd hc2 hd2
  have e : vs.toArray ++ ws.toArray = (vs ++ ws).toArray := by simp
  by_cases hw : ws = []
  · exact concat_meets ⟨_, ho, rfl⟩ ⟨_, ho2, rfl⟩ noFill_tuple_add seq_tuple_add PySem.F.slot_tuple_add PySem.F.entry_tuple_add (PySem.F.args_tuple_add_2 _ _)
      (tuple_addW1 t b vs.toArray ws.toArray n n2 dd dd2 sl sl2 (by simpa using hv) (by simp [hw])) ⟨ho, ho2, h1 hw⟩
  · refine concat_meets ⟨_, ho, rfl⟩ ⟨_, ho2, rfl⟩ noFill_tuple_add seq_tuple_add PySem.F.slot_tuple_add PySem.F.entry_tuple_add (PySem.F.args_tuple_add_2 _ _)
      (tuple_addW2 t b vs.toArray ws.toArray n n2 dd dd2 sl sl2 (by simpa using hv) (by simpa using hw) (by rw [List.size_toArray, List.size_toArray]; exact hsz)) ⟨ho, ho2, ?_⟩
    rw [e]
    exact h2 hw
def sIx (n d : Nat) : Option Int -> Nat
  | none => d
  | some v => if v < 0 then (v + (n : Int)).toNat else min v.toNat n
theorem sIx_nat (n d k : Nat) : sIx n d (some (k : Int)) = min k n := by
  show (if (k : Int) < 0 then ((k : Int) + (n : Int)).toNat else min (k : Int).toNat n) = min k n
  rw [if_neg (by lia), Int.toNat_natCast]
theorem sIx_le (n d : Nat) (hd : d <= n) (o : Option Int) : sIx n d o <= n := by
  cases o with
  | none => exact hd
  | some v =>
    show (if v < 0 then (v + (n : Int)).toNat else min v.toNat n) <= n
    by_cases hv : v < 0
    · rw [if_pos hv]; lia
    · rw [if_neg hv]; exact Nat.min_le_right _ _
theorem clip_eq (v : Int) (n d : Nat) : (if v < 0 then max (v + (n : Int)) 0 else min v (n : Int)) = ((sIx n d (some v) : Nat) : Int) := by
  show (if v < 0 then max (v + (n : Int)) 0 else min v (n : Int)) = (((if v < 0 then (v + (n : Int)).toNat else min v.toNat n) : Nat) : Int)
  by_cases hv : v < 0
  · simp only [if_pos hv]; lia
  · simp only [if_neg hv]; lia
theorem adjust_gen (lo hi : Option Int) (n : Nat) : Builtin.Slice.sliceAdjust lo hi 1 (n : Int) = (((sIx n 0 lo : Nat) : Int), ((sIx n n hi : Nat) : Int)) := by
  have h1 : ¬ ((1 : Int) < 0) := by lia
  unfold Builtin.Slice.sliceAdjust
  simp only [h1, if_false]
  refine Prod.ext ?_ ?_
  · cases lo with
    | none => rfl
    | some v => exact clip_eq v n 0
  · cases hi with
    | none => rfl
    | some v => exact clip_eq v n n
theorem places_gen (i j : Nat) : Builtin.Slice.slicePlaces (i : Int) (j : Int) 1 = j - i := by
  unfold Builtin.Slice.slicePlaces
  have h1 : (1 : Int) > 0 := by lia
  simp only [h1, if_true, Int.ediv_one]
  split <;> lia
theorem slicePart_ {v : Value} {o : Option Int} {Q : Option Int -> Shared -> Prop} (p : IsPart v o) (h : Q o s) : wpAny (model prog w) A (Builtin.Slice.slicePartIndex v) Q E s := by
  cases p with
  | none => exact slicePart_none h
  | int i t => exact slicePart_int h
theorem sliceApplied_gen {sl : Addr} {vl vu : Value} {lo hi : Option Int} {n : Nat} {Q : Int × Int × Nat -> Shared -> Prop} (hs : s.heap.IsSliceOf sl vl vu .none) (pl : IsPart vl lo) (pu : IsPart vu hi)
    (h : Q (((sIx n 0 lo : Nat) : Int), 1, sIx n n hi - sIx n 0 lo) s) : wpAny (model prog w) A (Builtin.Slice.sliceApplied (.ref sl) (pure (n : Int))) Q E s := by
  obtain ⟨os, hos, hcs, hds⟩ := id hs
  unfold Builtin.Slice.sliceApplied Builtin.Slice.sliceFields
  refine wpAny_bind (wpAny_bind (wpAny_field hos hds (x := vl) rfl (wpAny_bind (wpAny_field hos hds (x := vu) rfl (wpAny_bind (wpAny_field hos hds (x := .none) rfl (wpAny_pure ?_)))))))
  refine wpAny_bind (slicePart_none ?_)
  show wpAny _ _ (if ((1 : Int) == 0) = true then _ else _) _ _ s
  rw [if_neg (by decide)]
  refine wpAny_bind (slicePart_ pl (wpAny_bind (slicePart_ pu (wpAny_bind (wpAny_pure ?_)))))
  show wpAny _ _ (match Builtin.Slice.sliceAdjust lo hi 1 (n : Int) with | (lo, hi) => pure (lo, (1 : Int), Builtin.Slice.slicePlaces lo hi 1)) _ _ s
  rw [adjust_gen lo hi n]
  show wpAny _ _ (pure (((sIx n 0 lo : Nat) : Int), (1 : Int), Builtin.Slice.slicePlaces ((sIx n 0 lo : Nat) : Int) ((sIx n n hi : Nat) : Int) 1)) _ _ s
  rw [places_gen]
  exact wpAny_pure h
theorem pick_gen (xs : Array Value) (i k : Nat) : ((List.range k).filterMap fun (m : Nat) => xs[((i : Int) + (m : Int) * 1).toNat]?).toArray = ((xs.toList.drop i).take k).toArray := by
  have e : (fun (m : Nat) => xs[((i : Int) + (m : Int) * 1).toNat]?) = fun m => xs[i + m]? := by
    funext m
    have : ((i : Int) + (m : Int) * 1).toNat = i + m := by lia
    rw [this]
  rw [e]
  have := pick_run xs i k
  rw [List.filterMap_map] at this
  have e2 : ((fun x => xs[x]?) ∘ fun x => i + x) = fun m => xs[i + m]? := rfl
  rw [e2] at this
  rw [this]
theorem getItem_tuple_cut {t sl : Addr} {items : Array Value} {vl vu : Value} {lo hi : Option Int} {Q : Value -> Shared -> Prop} (ht : IsTup s.heap t items) (hs : s.heap.IsSliceOf sl vl vu .none) (pl : IsPart vl lo) (pu : IsPart vu hi)
    (hw : ¬ (sIx items.size 0 lo = 0 /\ sIx items.size items.size hi = items.size))
    (h : Q (.ref s.heap.objs.size) { s with heap := s.heap.push { cls := .type "tuple", data := .seq ((items.toList.drop (sIx items.size 0 lo)).take (sIx items.size items.size hi - sIx items.size 0 lo)).toArray } })
    (hsz : items.size <= sizeLine) : wpAny (model prog w) A (getItem (.ref t) (.ref sl)) Q E s := by
  have htake : sizeOk (.seq ((items.toList.drop (sIx items.size 0 lo)).take (sIx items.size items.size hi - sIx items.size 0 lo)).toArray) := by
    show ((items.toList.drop (sIx items.size 0 lo)).take (sIx items.size items.size hi - sIx items.size 0 lo)).toArray.size <= sizeLine
    rw [List.size_toArray, List.length_take, List.length_drop, Array.length_toList]
    lia
  have hj : sIx items.size items.size hi <= items.size := sIx_le _ _ (Nat.le_refl _) hi
  obtain ⟨os, hos, hcs, hds⟩ := id hs
  have hTs : s.TypeIs (.ref sl) "slice" := ⟨os, hos, hcs⟩
  unfold getItem
  try with_reducible refine wpAny_holding ?_
  first | refine wpAny_bind (wpAny_pure ?_) | skip
  refine wpAny_bind (wpAny_sequenceKey ht.typeIs (by decide) ?_)
  refine wpAny_bind (wpAny_callSpecial?_slot (name := Str.ofString "__getitem__") ht.typeIs PyProof.Rows.slot_tuple_getitem
    (wpAny_call_entry PyProof.Rows.slot_tuple_getitem ht.typeIs entry_tuple_getitem ?_ (args_tuple_getitem _ _)))
  show wpAny _ _ (Builtin.Tuple.tupleItemsOf (.ref t) >>= _) _ _ s
  refine wpAny_bind (tupleItemsOf_ ht ?_)
  refine wpAny_bind (wpAny_typeOf hTs ?_)
  rw [if_pos (by decide)]
  refine wpAny_bind (sliceApplied_gen hs pl pu ?_)
  have hno : ¬ ((((sIx items.size 0 lo : Nat) : Int) == 0 && (1 : Int) == 1 && (sIx items.size items.size hi - sIx items.size 0 lo) == items.size) = true) := by
    intro q
    rw [Bool.and_eq_true, Bool.and_eq_true] at q
    have q1 : ((sIx items.size 0 lo : Nat) : Int) = 0 := eq_of_beq q.1.1
    have q2 : sIx items.size items.size hi - sIx items.size 0 lo = items.size := eq_of_beq q.2
    exact hw ⟨by lia, by lia⟩
  show wpAny _ _ (if (((sIx items.size 0 lo : Nat) : Int) == 0 && (1 : Int) == 1 && (sIx items.size items.size hi - sIx items.size 0 lo) == items.size) = true then _ else _) _ _ s
  rw [if_neg hno, pick_gen]
  first
    | exact wpAny_bind (m := Builtin.Tuple.tupleExact _) (wpAny_newObj_type (wpAny_pure ⟨_, rfl, wpAny_pure h⟩) htake)
    | exact wpAny_bind (m := Builtin.Tuple.tupleExact _) (wpAny_newObj_type (wpAny_bind (wpAny_pure (wpAny_pure ⟨_, rfl, wpAny_pure h⟩))) htake)
    | exact wpAny_bind (wpAny_bind (m := Builtin.Tuple.tupleExact _) (wpAny_newObj_type (wpAny_pure (wpAny_pure ⟨_, rfl, wpAny_pure h⟩)) htake))
    | exact wpAny_bind (wpAny_bind (m := Builtin.Tuple.tupleExact _) (wpAny_newObj_type (wpAny_pure ⟨_, rfl, wpAny_pure h⟩) htake))
end
end HT
namespace L2
open PySem PySem.Spec PyProof.Rows
abbrev TO := St -> Hp -> (Option Int -> Hp -> Prop) -> Prop
def PO (X : Cx) (e : Option Expr) (t : TO) : Prop :=
  ∀ (pins : List (Addr × Obj)) (s : Shared) (σ : St) (H : Hp) (Q : Option Int -> Hp -> Prop), Inv X pins σ H s -> t σ H Q ->
    wpAny (model X.prog X.w) X.A (evalPart e X.env) (fun u s' => ∃ o H', Inv X pins σ H' s' /\ IsPart u o /\ Q o H') X.xe s
def tNoPart : TO := fun _ H Q => Q none H
def tPart (t : TE) : TO := fun σ H Q => t σ H fun x H1 => ∃ i, x = .int i /\ Q (some i) H1
theorem intsAre_of {ns : List Int} : ∀ {us : List Value}, Vals (ns.map V.int) us -> IntsAre us ns := by
  induction ns with
  | nil => intro us r; rw [List.map_nil] at r; cases r; exact .nil
  | cons n ns ih =>
    intro us r
    rw [List.map_cons] at r
    cases r with
    | cons r1 r2 =>
      obtain ⟨t, e⟩ := r1
      subst e
      exact .cons n t (ih r2)
section
variable {X : Cx} {e : Expr} {te : TE} {lo hi : Option Expr} {tl th : TO} {pos p2 : Pos}
theorem po_none : PO X none tNoPart := by
  intro pins s σ H Q I h
  rw [evalPart_none]
  exact wpAny_pure ⟨none, H, I, .none, h⟩
theorem po_some (h : PE X e te) : PO X (some e) (tPart te) := by
  intro pins s σ H Q I hw
  rw [evalPart_some]
  refine thn (h pins s σ H _ I hw) fun u s1 ⟨x, H1, I1, r1, q1⟩ => ?_
  obtain ⟨i, rfl, q⟩ := q1
  obtain ⟨t, rfl⟩ := r1
  exact ⟨some i, H1, I1, .int i t, q⟩
def SlR (X : Cx) (r : V -> Option Int -> Option Int -> Hp -> VK -> Prop) : Prop :=
  ∀ (pins : List (Addr × Obj)) (s : Shared) (σ : St) (H : Hp) (x : V) (v vl vu : Value) (lo hi : Option Int) (sl : Addr) (Q : VK), Inv X pins σ H s -> RelV x v -> s.heap.IsSliceOf sl vl vu .none -> IsPart vl lo -> IsPart vu hi -> r x lo hi H Q ->
    ∃ T id, typeLookup (.type T) "__getitem__" = pure (some (.builtin id)) /\ s.TypeIs v T /\ wpAny (model X.prog X.w) X.A (getItem v (.ref sl)) (EP X pins σ Q) X.xe s
def tSl (r : V -> Option Int -> Option Int -> Hp -> VK -> Prop) (te : TE) (tl th : TO) : TE := fun σ H Q => te σ H fun x H1 => tl σ H1 fun l H2 => th σ H2 fun u H3 => r x l u H3 Q
theorem pe_slice {r : V -> Option Int -> Option Int -> Hp -> VK -> Prop} (hr : SlR X r) (he : PE X e te) (hl : PO X lo tl) (hu : PO X hi th) : PE X (.Subscript e (.Slice lo hi none p2) pos) (tSl r te tl th) := by
  intro pins s σ H Q I h
  refine Subscript_ (thn (he pins s σ H _ I h) fun v s1 ⟨x, H1, I1, r1, q1⟩ => ?_)
  refine wpAny_Slice (thn (hl pins s1 σ H1 _ I1 q1) fun vl s2 ⟨l, H2, I2, pl, q2⟩ => thn (hu pins s2 σ H2 _ I2 q2) fun vu s3 ⟨u, H3, I3, pu, q3⟩ => ?_)
  rw [evalPart_none]
  refine wpAny_pure ?_
  have I4 : Inv X pins σ H3 { s3 with heap := s3.heap.push { cls := .type "slice", data := .fields #[vl, vu, .none] } } := I3.kept (t' := s3.toks) fun b ob q => Heap.get?_push_of_some _ q
  obtain ⟨T, id, hT, ht, hg⟩ := hr pins { s3 with heap := s3.heap.push { cls := .type "slice", data := .fields #[vl, vu, .none] } } σ H3 x v vl vu l u s3.heap.objs.size Q I4 r1 (Heap.IsSliceOf.new ..) pl pu q3
  show wpAny (model X.prog X.w) X.A (subscriptTail e (.Slice lo hi none p2) v (.ref s3.heap.objs.size)) (EP X pins σ Q) X.xe { s3 with heap := s3.heap.push { cls := .type "slice", data := .fields #[vl, vu, .none] } }
  exact tail_any (ops := [.ref s3.heap.objs.size, v]) ht hT hg (by with_unfolding_all rfl)
def cutV (xs : List V) (lo hi : Option Int) : List V := (xs.drop (HT.sIx xs.length 0 lo)).take (HT.sIx xs.length xs.length hi - HT.sIx xs.length 0 lo)
theorem cutV_length (xs : List V) (lo hi : Option Int) : (cutV xs lo hi).length <= xs.length := by
  unfold cutV
  rw [List.length_take, List.length_drop]
  lia
def rSlT (K : PySem.W.Frag) : V -> Option Int -> Option Int -> Hp -> VK -> Prop := fun x lo hi H Q => ∃ a xs, x = .ref a /\ SqT K H a xs /\
  ¬ (HT.sIx xs.length 0 lo = 0 /\ HT.sIx xs.length xs.length hi = xs.length) /\ ∀ p, H p = none -> Q (.ref p) (upd H p (.tup (cutV xs lo hi)))
theorem sl_tup : SlR X (rSlT X.K) := by
  intro pins s σ H x v vl vu lo hi sl Q I rx hs pl pu h
  obtain ⟨a, xs, rfl, hx, hw, q⟩ := h
  cases rx
  obtain ⟨its, r, ht, hz⟩ := I.tuple hx
  have hlen : its.toArray.size = xs.length := by rw [List.size_toArray]; exact r.length.symm
  refine ⟨"tuple", _, PyProof.Rows.slot_tuple_getitem.lookup, ht.typeIs, ?_⟩
  refine HT.getItem_tuple_cut ht hs pl pu (by rw [hlen]; exact hw) ?_ (by rw [hlen]; exact hz)
  rw [hlen]
  refine ⟨.ref s.heap.objs.size, _, I.laid (t' := s.toks) (o := .tup (cutV xs lo hi)) (fun b ob q => Heap.get?_push_of_some _ q) (Nat.le_refl _) ?_, rfl, q _ (I.hok.fresh (Nat.le_refl _))⟩
  exact ⟨Nat.le_trans (cutV_length xs lo hi) hz, _, (r.drop (HT.sIx xs.length 0 lo)).take (HT.sIx xs.length xs.length hi - HT.sIx xs.length 0 lo), IsTup.new _ _⟩
def rCatT (K : PySem.W.Frag) : R2 := fun x y H Q => ∃ a b xs ys, x = .ref a /\ y = .ref b /\ SqT K H a xs /\ SqT K H b ys /\ xs ≠ [] /\ xs.length + ys.length <= sizeLine /\
  (ys = [] -> Q (.ref a) H) /\ (ys ≠ [] -> ∀ p, H p = none -> Q (.ref p) (upd H p (.tup (xs ++ ys))))
theorem Vals.nil_iff {xs : List V} {us : List Value} (r : Vals xs us) : us = [] ↔ xs = [] := by
  cases r with
  | nil => simp
  | cons _ _ => simp
theorem op_catT : OpR X (binaryOp .Add) (rCatT X.K) := by
  intro pins s σ H x y v u Q I rx ry h
  obtain ⟨a, b, xs, ys, rfl, rfl, ha, hb, hx, hz, q1, q2⟩ := h
  cases rx
  cases ry
  obtain ⟨its, r1, p1, _⟩ := I.tuple ha
  obtain ⟨its2, r2, p2, _⟩ := I.tuple hb
  refine HT.cat_tup p1 p2 (fun z => hx (r1.nil_iff.mp z)) (fun z => ⟨.ref a, H, I, rfl, q1 (r2.nil_iff.mp z)⟩) (fun z => ?_) (by rw [<- r1.length, <- r2.length]; exact hz)
  refine ⟨.ref s.heap.objs.size, _, I.laid (t' := s.toks) (o := .tup (xs ++ ys)) (fun b ob q => Heap.get?_push_of_some _ q) (Nat.le_refl _) ?_, rfl, q2 (fun w => z (r2.nil_iff.mpr w)) _ (I.hok.fresh (Nat.le_refl _))⟩
  exact ⟨by rw [List.length_append]; exact hz, _, r1.append r2, IsTup.new _ _⟩
end
def ixN (n : Nat) (i : Int) : Option Nat := if 0 <= i then (if i < n then some i.toNat else none) else if -(n : Int) <= i then some (i + n).toNat else none
def atI {α : Type} (xs : List α) (i : Int) : Option α := (ixN xs.length i).bind fun j => xs[j]?
theorem ixN_seq {n : Nat} {i : Int} {j : Nat} (h : ixN n i = some j) : seqIndex? i n = some j /\ j < n /\ -(n : Int) <= i /\ i < n := by
  unfold ixN at h
  by_cases h0 : 0 <= i
  · rw [if_pos h0] at h
    by_cases h1 : i < n
    · rw [if_pos h1] at h
      have e : i.toNat = j := Option.some.inj h
      exact ⟨by rw [seqIndex_of h0 h1, e], by lia, by lia, h1⟩
    · rw [if_neg h1] at h; cases h
  · rw [if_neg h0] at h
    by_cases h1 : -(n : Int) <= i
    · rw [if_pos h1] at h
      have e : (i + n).toNat = j := Option.some.inj h
      exact ⟨by rw [seqIndex_neg (by lia) h1, e], by lia, h1, by lia⟩
    · rw [if_neg h1] at h; cases h
theorem atI_get {α : Type} {xs : List α} {i : Int} {v : α} (h : atI xs i = some v) : ∃ j, seqIndex? i xs.length = some j /\ xs[j]? = some v /\ j < xs.length /\ -(xs.length : Int) <= i /\ i < xs.length := by
  unfold atI at h
  cases e : ixN xs.length i with
  | none => rw [e] at h; cases h
  | some j =>
    rw [e] at h
    obtain ⟨h1, h2, h3, h4⟩ := ixN_seq e
    exact ⟨j, h1, h, h2, h3, h4⟩
theorem atI_nat {α : Type} {xs : List α} {j : Nat} {v : α} (h : xs[j]? = some v) : atI xs (j : Int) = some v := by
  have hj : j < xs.length := (List.getElem?_eq_some_iff.mp h).1
  have e : ixN xs.length (j : Int) = some j := by
    unfold ixN
    rw [if_pos (by lia), if_pos (by lia)]; simp
  unfold atI; rw [e]; exact h
theorem atI_last {α : Type} (xs : List α) (v : α) : atI (xs ++ [v]) (-1) = some v := by
  have hl : (xs ++ [v]).length = xs.length + 1 := by simp
  have e : ixN (xs ++ [v]).length (-1) = some xs.length := by
    unfold ixN
    rw [hl, if_neg (by decide), if_pos (by lia)]
    congr 1
    lia
  unfold atI
  rw [e]
  show (xs ++ [v])[xs.length]? = some v
  simp
def PlainIx (b : Expr) : Prop := ∀ o i, subscripted b false o i = operate [o, i] (getItem o i)
def IxR (X : Cx) (r : R2) : Prop :=
  ∀ (value slice : Expr) (pins : List (Addr × Obj)) (s : Shared) (σ : St) (H : Hp) (x y : V) (v u : Value) (Q : VK), Inv X pins σ H s -> RelV x v -> RelV y u -> r x y H Q ->
    subscripted slice false v u = operate [v, u] (getItem v u) -> wpAny (model X.prog X.w) X.A (subscriptTail value slice v u) (EP X pins σ Q) X.xe s
def MtR (X : Cx) (id : String) (r : V -> List V -> Hp -> VK -> Prop) : Prop :=
  ∀ (pins : List (Addr × Obj)) (s : Shared) (σ : St) (H : Hp) (x : V) (xs : List V) (v : Value) (us : List Value) (Q : VK), Inv X pins σ H s -> RelV x v -> Vals xs us -> r x xs H Q ->
    wpAny (model X.prog X.w) X.A (call (.builtin id) (v :: us)) (EP X pins σ Q) X.xe s
section
variable {X : Cx} {a b : Expr} {ta tb : TE} {pos : Pos}
theorem pe_ix {r : R2} (hr : IxR X r) (ha : PE X a ta) (hb : PE X b tb) (hs : PlainIx b) : PE X (.Subscript a b pos) (tOp r ta tb) := by
  intro pins s σ H Q I h
  exact Subscript_ (binT ha hb I h fun v u s2 x y H2 I2 rx ry q => hr a b pins s2 σ H2 x y v u Q I2 rx ry q (hs _ _))
def rIxL (K : PySem.W.Frag) : R2 := fun x y H Q => ∃ p xs i v, x = .ref p /\ y = .int i /\ SqL K H p xs /\ atI xs i = some v /\ Q v H
def rIxT (K : PySem.W.Frag) : R2 := fun x y H Q => ∃ p xs i v, x = .ref p /\ y = .int i /\ SqT K H p xs /\ atI xs i = some v /\ Q v H
theorem ix_list : IxR X (rIxL X.K) := by
  intro value slice pins s σ H x y v u Q I rx ry h hs
  obtain ⟨p, xs, i, z, rfl, rfl, hq, he, q⟩ := h
  cases rx
  obtain ⟨t, rfl⟩ := ry
  obtain ⟨its, r, pl, hz⟩ := I.list hq
  obtain ⟨j, h1, h2, h3, h4, h5⟩ := atI_get he
  obtain ⟨w, ew, rw'⟩ := r.get h2
  have hl := r.length
  have hn := line63
  have fin : EP X pins σ Q w s := ⟨z, H, I, rw', q⟩
  by_cases h0 : 0 <= i
  · have hj : i.toNat = j := by
      rw [seqIndex_of h0 h5] at h1
      exact Option.some.inj h1
    exact item_listR pl.isList h0 (by lia) (by rw [hj]; simpa using ew) fin hs
  · have hj : (i + (its.toArray.size : Int)).toNat = j := by
      rw [seqIndex_neg (by lia) h4] at h1
      rw [List.size_toArray, <- hl]
      exact Option.some.inj h1
    exact subscriptTail_builtinR (x := w) pl.isList.typeIs slot_list_getitem.lookup
      (wpAny_getItem_list_neg (Q := fun r s' => r = w /\ EP X pins σ Q r s') pl.isList (by lia) (by rw [List.size_toArray] <;> lia) (by lia) (by rw [hj]; simpa using ew) ⟨rfl, fin⟩) hs
theorem ix_tup : IxR X (rIxT X.K) := by
  intro value slice pins s σ H x y v u Q I rx ry h hs
  obtain ⟨p, xs, i, z, rfl, rfl, hq, he, q⟩ := h
  cases rx
  obtain ⟨t, rfl⟩ := ry
  obtain ⟨its, r, pl, hz⟩ := I.tuple hq
  obtain ⟨j, h1, h2, h3, h4, h5⟩ := atI_get he
  obtain ⟨w, ew, rw'⟩ := r.get h2
  have hl := r.length
  have hn := line63
  have fin : EP X pins σ Q w s := ⟨z, H, I, rw', q⟩
  exact subscriptTail_builtinR (x := w) pl.typeIs slot_tuple_getitem.lookup
    (getItem_tuple (j := j) (Q := fun r s' => r = w /\ EP X pins σ Q r s') pl (by lia) (by lia) (by rw [List.size_toArray, <- hl]; exact h1) (by simpa using ew) ⟨rfl, fin⟩) hs
theorem slice_bounds (lo hi : Option Int) (n : Nat) : (sliceBounds lo hi none n).1 = ((HT.sIx n 0 lo : Nat) : Int) /\ (sliceBounds lo hi none n).2.1 = ((HT.sIx n n hi : Nat) : Int) /\ (sliceBounds lo hi none n).2.2 = 1 := by
  refine ⟨?_, ?_, rfl⟩
  · cases lo with
    | none => simp [sliceBounds, HT.sIx]
    | some i =>
      simp only [sliceBounds, HT.sIx, Option.getD_none, show (1 : Int) > 0 by decide, if_true]
      by_cases h : i < 0
      · simp only [h, if_true] <;> lia
      · simp only [h, if_false] <;> lia
  · cases hi with
    | none => simp [sliceBounds, HT.sIx]
    | some i =>
      simp only [sliceBounds, HT.sIx, Option.getD_none, show (1 : Int) > 0 by decide, if_true]
      by_cases h : i < 0
      · simp only [h, if_true] <;> lia
      · simp only [h, if_false] <;> lia
theorem slicePick_cut (its : List Value) (lo hi : Option Int) : slicePick its.toArray lo hi none = ((its.drop (HT.sIx its.length 0 lo)).take (HT.sIx its.length its.length hi - HT.sIx its.length 0 lo)).toArray := by
  obtain ⟨h1, h2, h3⟩ := slice_bounds lo hi its.toArray.size
  unfold slicePick
  rw [h1, h2, h3]
  simp only [sliceRange_one, pick_run, List.size_toArray] <;> rfl
def rSlL (K : PySem.W.Frag) : V -> Option Int -> Option Int -> Hp -> VK -> Prop := fun x lo hi H Q => ∃ a xs, x = .ref a /\ SqL K H a xs /\ ∀ p, H p = none -> Q (.ref p) (upd H p (.lst (cutV xs lo hi)))
theorem sl_list : SlR X (rSlL X.K) := by
  intro pins s σ H x v vl vu lo hi sl Q I rx hs pl pu h
  obtain ⟨a, xs, rfl, hx, q⟩ := h
  cases rx
  obtain ⟨its, r, ht, hz⟩ := I.list hx
  have hlen := r.length
  refine ⟨"list", _, slot_list_getitem.lookup, ht.isList.typeIs, ?_⟩
  refine wpAny_getItem_list_slice ht.isList hs pl pu .none (by simp) ?_ (by rw [List.size_toArray] <;> lia)
  rw [slicePick_cut, <- hlen]
  refine ⟨.ref s.heap.objs.size, _, I.laid (t' := s.toks) (o := .lst (cutV xs lo hi)) (fun b ob q => Heap.get?_push_of_some _ q) (Nat.le_refl _) ?_, rfl, q _ (I.hok.fresh (Nat.le_refl _))⟩
  exact ⟨Nat.le_trans (cutV_length xs lo hi) hz, _, 0, (r.drop (HT.sIx xs.length 0 lo)).take (HT.sIx xs.length xs.length hi - HT.sIx xs.length 0 lo), Heap.get?_push_size _ rfl⟩
def flatV : V -> Bool
  | .non => true
  | .bl _ => true
  | .int _ => true
  | .str _ => true
  | _ => false
def eqV : V -> V -> Bool
  | .non, .non => true
  | .bl a, .bl b => a == b
  | .bl a, .int b => (if a then 1 else 0) == b
  | .int a, .bl b => a == (if b then 1 else 0)
  | .int a, .int b => a == b
  | .str a, .str b => a == b
  | _, _ => false
theorem eqAt_V {A : Around} {s : Shared} {y x : V} {u v : Value} (ry : RelV y u) (rx : RelV x v) (fy : flatV y = true) (fx : flatV x = true) : SeqAt.EqAt A s u v (eqV y x) := by
  cases y with
  | non =>
    cases ry
    cases x with
    | non => cases rx; exact SeqAt.EqAt.same _
    | bl b => cases rx; exact SeqAt.EqAt.none_bool b
    | int b => obtain ⟨t, rfl⟩ := rx; exact SeqAt.EqAt.none_int b t
    | str b => obtain ⟨t, rfl⟩ := rx; exact SeqAt.EqAt.none_str b t
    | _ => exact absurd (show false = true from fx) Bool.false_ne_true
  | bl a =>
    cases ry
    cases x with
    | non => cases rx; exact SeqAt.EqAt.bool_none a
    | bl b => cases rx; exact SeqAt.EqAt.bool_bool a b
    | int b => obtain ⟨t, rfl⟩ := rx; exact SeqAt.EqAt.bool_int a b t
    | str b => obtain ⟨t, rfl⟩ := rx; exact SeqAt.EqAt.bool_str a b t
    | _ => exact absurd (show false = true from fx) Bool.false_ne_true
  | int a =>
    obtain ⟨t', rfl⟩ := ry
    cases x with
    | non => cases rx; exact SeqAt.EqAt.int_none a t'
    | bl b => cases rx; exact SeqAt.EqAt.int_bool a t' b
    | int b => obtain ⟨t, rfl⟩ := rx; exact SeqAt.EqAt.int_int a t' b t
    | str b => obtain ⟨t, rfl⟩ := rx; exact SeqAt.EqAt.int_str a t' b t
    | _ => exact absurd (show false = true from fx) Bool.false_ne_true
  | str a =>
    obtain ⟨t', rfl⟩ := ry
    cases x with
    | non => cases rx; exact SeqAt.EqAt.str_none a t'
    | bl b => cases rx; exact SeqAt.EqAt.str_bool a t' b
    | int b => obtain ⟨t, rfl⟩ := rx; exact SeqAt.EqAt.str_int a t' b t
    | str b => obtain ⟨t, rfl⟩ := rx; exact SeqAt.EqAt.str_str a t' b t
    | _ => exact absurd (show false = true from fx) Bool.false_ne_true
  | _ => exact absurd (show false = true from fy) Bool.false_ne_true
def eqU (x : V) (u : Value) : Bool := match u with
  | .none => eqV .non x
  | .bool b => eqV (.bl b) x
  | .int i _ => eqV (.int i) x
  | .str z _ => eqV (.str z) x
  | _ => false
theorem eqU_of {x y : V} {u : Value} (r : RelV y u) (f : flatV y = true) : eqU x u = eqV y x := by
  cases y with
  | non => cases r; rfl
  | bl b => cases r; rfl
  | int i => obtain ⟨t, rfl⟩ := r; rfl
  | str z => obtain ⟨t, rfl⟩ := r; rfl
  | _ => exact absurd (show false = true from f) Bool.false_ne_true
theorem any_eqU {x : V} : ∀ {xs : List V} {us : List Value}, Vals xs us -> xs.all flatV = true -> us.any (eqU x) = xs.any fun y => eqV y x
  | _, _, .nil, _ => rfl
  | y :: xs, u :: us, .cons r t, f => by
    rw [List.all_cons, Bool.and_eq_true] at f
    rw [List.any_cons, List.any_cons, eqU_of r f.1, any_eqU t f.2]
theorem mem_eqAt {A : Around} {s : Shared} {x : V} {v : Value} (rx : RelV x v) (fx : flatV x = true) : ∀ {xs : List V} {us : List Value}, Vals xs us -> xs.all flatV = true -> ∀ u ∈ us, SeqAt.EqAt A s u v (eqU x u)
  | _, _, .nil, _ => fun u hu => by cases hu
  | y :: xs, u :: us, .cons r t, f => fun u' hu => by
    rw [List.all_cons, Bool.and_eq_true] at f
    rcases List.mem_cons.mp hu with rfl | hu
    · rw [eqU_of r f.1]; exact eqAt_V r rx f.1 fx
    · exact mem_eqAt rx fx t f.2 u' hu
def inV (x : V) (xs : List V) : Bool := xs.any fun y => eqV y x
def rIn (K : PySem.W.Frag) (neg : Bool) : R2 := fun x y H Q => ∃ p xs, y = .ref p /\ (SqL K H p xs \/ SqT K H p xs) /\ flatV x = true /\ xs.all flatV = true /\ Q (.bl (if neg then !inV x xs else inV x xs)) H
theorem op_in_seq : OpR X (compareOp .In) (rIn X.K false) := by
  intro pins s σ H x y v u Q I rx ry h
  obtain ⟨p, xs, rfl, hq, fx, fs, q⟩ := h
  cases ry
  rcases hq with hq | hq
  · obtain ⟨its, r, pl, hz⟩ := I.list hq
    refine SeqAt.in_listAt (eqU x) pl.isList (fun w hw => mem_eqAt rx fx r fs w (by simpa using hw)) ⟨.bl _, H, I, rfl, ?_⟩
    rw [show its.toArray.any (eqU x) = its.any (eqU x) by simp, any_eqU r fs]
    exact q
  · obtain ⟨its, r, pl, hz⟩ := I.tuple hq
    refine SeqAt.in_tupleAt (eqU x) pl (fun w hw => mem_eqAt rx fx r fs w (by simpa using hw)) ⟨.bl _, H, I, rfl, ?_⟩
    rw [show its.toArray.any (eqU x) = its.any (eqU x) by simp, any_eqU r fs]
    exact q
theorem op_notIn_seq : OpR X (compareOp .NotIn) (rIn X.K true) := by
  intro pins s σ H x y v u Q I rx ry h
  obtain ⟨p, xs, rfl, hq, fx, fs, q⟩ := h
  cases ry
  rcases hq with hq | hq
  · obtain ⟨its, r, pl, hz⟩ := I.list hq
    refine SeqAt.notIn_listAt (eqU x) pl.isList (fun w hw => mem_eqAt rx fx r fs w (by simpa using hw)) ⟨.bl _, H, I, rfl, ?_⟩
    rw [show its.toArray.any (eqU x) = its.any (eqU x) by simp, any_eqU r fs]
    exact q
  · obtain ⟨its, r, pl, hz⟩ := I.tuple hq
    refine SeqAt.notIn_tupleAt (eqU x) pl (fun w hw => mem_eqAt rx fx r fs w (by simpa using hw)) ⟨.bl _, H, I, rfl, ?_⟩
    rw [show its.toArray.any (eqU x) = its.any (eqU x) by simp, any_eqU r fs]
    exact q
theorem call_len_seq : CallR X (.builtin "len") (fun xs H Q => ∃ p ys, xs = [.ref p] /\ (SqL X.K H p ys \/ SqT X.K H p ys) /\ Q (.int ys.length) H) := by
  intro pins s σ H xs us Q I r h
  obtain ⟨p, ys, rfl, hq, q⟩ := h
  obtain ⟨u, rfl, rx⟩ := vals1 r
  cases rx
  have hn := line63
  rcases hq with hq | hq
  · obtain ⟨its, r', pl, hz⟩ := I.list hq
    have hlen := r'.length
    exact Calls.call_len_list pl.isList (by simp only [List.size_toArray] <;> lia) ⟨.int ys.length, H, I.tok _, ⟨s.toks + 1, by rw [List.size_toArray, hlen]⟩, q⟩
  · obtain ⟨its, r', pl, hz⟩ := I.tuple hq
    have hlen := r'.length
    exact len_tuple pl (by simp only [List.size_toArray] <;> lia) ⟨.int ys.length, H, I.tok _, ⟨s.toks + 1, by rw [List.size_toArray, hlen]⟩, q⟩
theorem call_list_of : CallR X (.type "list") (fun xs H Q => ∃ p ys, xs = [.ref p] /\ (SqL X.K H p ys \/ SqT X.K H p ys) /\ ∀ l, H l = none -> Q (.ref l) (upd H l (.lst ys))) := by
  intro pins s σ H xs us Q I r h
  obtain ⟨p, ys, rfl, hq, q⟩ := h
  obtain ⟨u, rfl, rx⟩ := vals1 r
  cases rx
  have fin : ∀ (its : List Value), Vals ys its -> ys.length <= sizeLine -> ∀ (h' : Heap) (c' : Nat), (∀ b o', s.heap.get? b = some o' -> h'.get? b = some o') ->
      h'.get? s.heap.objs.size = some { cls := .type "list", dict := none, data := .seq its.toArray c', slots := #[] } -> EP X pins σ Q (.ref s.heap.objs.size) { s with heap := h' } := fun its r' hz h' c' kp e =>
    ⟨.ref s.heap.objs.size, _, I.laid (t' := s.toks) kp (Nat.le_refl _) (show ObjOk X.prog X.w _ h' _ (.lst ys) from ⟨hz, its, c', r', e⟩), rfl, q _ (I.hok.fresh (Nat.le_refl _))⟩
  rcases hq with hq | hq
  · obtain ⟨its, r', pl, hz⟩ := I.list hq
    have hlen := r'.length
    obtain ⟨o, ho, hc, n, hd⟩ := pl.isList
    exact call_list_seq p (.inl rfl) ho hc hd (fun h' c' kp e => fin its r' hz h' c' kp e) (by simp only [List.size_toArray] <;> lia)
  · obtain ⟨its, r', pl, hz⟩ := I.tuple hq
    have hlen := r'.length
    obtain ⟨o, ho, hc, n, hd⟩ := pl
    exact call_list_seq p (.inr rfl) ho hc hd (fun h' c' kp e => fin its r' hz h' c' kp e) (by simp only [List.size_toArray] <;> lia)
theorem call_tuple_of : CallR X (.type "tuple") (fun xs H Q => ∃ p ys, xs = [.ref p] /\ ((SqL X.K H p ys /\ ∀ l, H l = none -> Q (.ref l) (upd H l (.tup ys))) \/ (SqT X.K H p ys /\ Q (.ref p) H))) := by
  intro pins s σ H xs us Q I r h
  obtain ⟨p, ys, rfl, h⟩ := h
  obtain ⟨u, rfl, rx⟩ := vals1 r
  cases rx
  rcases h with ⟨hq, q⟩ | ⟨hq, q⟩
  · obtain ⟨its, r', pl, hz⟩ := I.list hq
    have hlen := r'.length
    refine call_tuple_list pl.isList (fun h' kp => ?_) (by simp only [List.size_toArray] <;> lia)
    have I1 : Inv X pins σ H { s with heap := h' } := I.kept (t' := s.toks) kp
    have I2 : Inv X pins σ (upd H h'.objs.size (.tup ys)) { s with heap := h'.push { cls := .type "tuple", data := .seq its.toArray } } :=
      I1.laid (t' := s.toks) (fun b o e => Heap.get?_push_of_some _ e) (Nat.le_refl _) (show ObjOk X.prog X.w _ _ _ (.tup ys) from ⟨hz, its, r', IsTup.new _ _⟩)
    exact ⟨.ref h'.objs.size, _, I2, rfl, q _ (I1.hok.fresh (Nat.le_refl _))⟩
  · obtain ⟨its, r', pl, hz⟩ := I.tuple hq
    exact call_tuple_same pl ⟨.ref p, H, I, rfl, q⟩
def tyV (K : PySem.W.Frag) (T : String) (x : V) (H : Hp) : Prop := match x with
  | .str _ => T = "str"
  | .int _ => T = "int"
  | .ref p => (T = "list" /\ ∃ xs, SqL K H p xs) \/ (T = "tuple" /\ ∃ o, K.lookup p = some o /\ o.cls = .type "tuple" /\ o.dict = none) \/
      (T = "dict" /\ ((∃ kvs, H p = some (.dK kvs)) \/ ∃ kvs, H p = some (.dT kvs))) \/ (T = "set" /\ ∃ S n, H p = some (.set S n))
  | _ => False
theorem tyV_is {pins : List (Addr × Obj)} {σ : St} {H : Hp} {s : Shared} {T : String} {x : V} {v : Value} (I : Inv X pins σ H s) (r : RelV x v) (ty : tyV X.K T x H) :
    s.TypeIs v T /\ ∀ a, v = .ref a -> ∃ ob, s.heap.get? a = some ob /\ ob.dict = none := by
  cases x with
  | str z =>
    obtain ⟨t, rfl⟩ := r
    cases (show T = "str" from ty)
    exact ⟨typeIs_str s z t, fun _ e => nomatch e⟩
  | int i =>
    obtain ⟨t, rfl⟩ := r
    cases (show T = "int" from ty)
    exact ⟨typeIs_int s i t, fun _ e => nomatch e⟩
  | ref p =>
    cases r
    rcases ty with ⟨rfl, xs, hq⟩ | ⟨rfl, o, hk, hc, hd⟩ | ⟨rfl, hk⟩ | ⟨rfl, S, n, hk⟩
    · obtain ⟨its, _, pl, _⟩ := I.list hq
      refine ⟨pl.isList.typeIs, fun a e => ?_⟩
      cases e
      obtain ⟨o, n, e, c, hd, _⟩ := pl
      exact ⟨o, e, hd⟩
    · refine ⟨⟨o, I.kIn p o hk, hc⟩, fun a e => ?_⟩
      cases e
      exact ⟨o, I.kIn _ o hk, hd⟩
    · have z : ∃ o, s.heap.get? p = some o /\ o.ExactDict := by
        rcases hk with ⟨kvs, hk⟩ | ⟨kvs, hk⟩
        · obtain ⟨_, _, _, _, o, _, _, e, ex, _⟩ := I.hok p _ hk
          exact ⟨o, e, ex⟩
        · obtain ⟨_, _, _, _, o, _, _, e, ex, _⟩ := I.hok p _ hk
          exact ⟨o, e, ex⟩
      obtain ⟨o, e, ex⟩ := z
      refine ⟨⟨o, e, ex.1⟩, fun a e2 => ?_⟩
      cases e2
      exact ⟨o, e, ex.2.1⟩
    · obtain ⟨o, _, _, _, e, ex, _⟩ := I.hok p _ hk
      refine ⟨⟨o, e, ex.1⟩, fun a e2 => ?_⟩
      cases e2
      exact ⟨o, e, ex.2.1⟩
  | _ => exact False.elim ty
def tBM (K : PySem.W.Frag) (T : String) (r : V -> List V -> Hp -> VK -> Prop) (to : TE) (t : TA) : TE := fun σ H Q => to σ H fun x H1 => tyV K T x H1 /\ t σ H1 fun xs H2 => r x xs H2 Q
variable {o e : Expr} {es : List Expr} {to : TE} {t : TA} {name : Str} {apos cpos : Pos} {T id : String} {r : V -> List V -> Hp -> VK -> Prop}
theorem pe_bm (pa : PlainAttrs T) (slot : Slot T name id) (hty : typeOf (.builtin id) = pure (.type "method_descriptor")) (hm : MtR X id r) (ho : PE X o to) (ha : PA X (e :: es) t)
    (hbase : attributeBase o name X.env (eval o X.env) = eval o X.env := by rfl)
    (hfew : ((backTo cpos (starEach (e :: es) X.env)).all (fun x => !x.1) && (backToKw cpos (keywordEach [] X.env)).all (fun x => x.1.isSome)
      && decide ((e :: es).length + ([] : List Keyword).length + (if ([] : List Keyword).isEmpty then 0 else 1) < 30)) = true := by rfl)
    (hline : (apos.endLine == cpos.line) = true := by rfl) (hs : starEach (e :: es) X.env = (false, eval e X.env) :: starEach es X.env := by rfl) (hplain : (backTo cpos (starEach es X.env)).any (·.1) = false := by rfl) :
    PE X (.Call (.Attribute o name apos) (e :: es) [] cpos) (tBM X.K T r to t) := by
  intro pins s σ H Q I h
  refine wpAny_Call_method_late hbase hfew hline rfl (thn (ho pins s σ H _ I h) fun v s1 ⟨x, H1, I1, r1, ty, q1⟩ => ?_)
  obtain ⟨h1, h2⟩ := tyV_is I1 r1 ty
  refine ⟨T, id, pa, slot, hty, h1, h2, ?_⟩
  have hA := ha cpos pins s1 σ H1 _ I1 q1
  rw [hs] at hA ⊢
  refine Calls.callWith_builtin (by show (false || (backTo cpos (starEach es X.env)).any (·.1)) = false; rw [hplain] <;> rfl) (Calls.evalArgs_plain ?_)
  exact thn hA fun us s2 ⟨vs, H2, I2, r2, q2⟩ => hm pins s2 σ H2 x vs v us Q I2 r1 r2 q2
/- xs.append(e), list.index on a module's tuple .. are MtR facts of 06m -/
end
def MtM (X : Cx) (id : String) (r : V -> List V -> Hp -> VK -> Prop) : Prop :=
  ∀ (pins : List (Addr × Obj)) (s : Shared) (σ : St) (H : Hp) (x : V) (xs : List V) (v : Value) (us : List Value) (Q : VK), Inv X pins σ H s -> RelV x v -> Vals xs us -> r x xs H Q ->
    wpAny (model X.prog X.w) X.A (call (.builtin id) (v :: us)) (EP X pins σ Q) X.xe s
theorem Vals.one : ∀ {x : V} {us : List Value}, Vals [x] us -> ∃ u, us = [u] /\ RelV x u
  | _, _, .cons r .nil => ⟨_, rfl, r⟩
theorem Vals.two : ∀ {x y : V} {us : List Value}, Vals [x, y] us -> ∃ u v, us = [u, v] /\ RelV x u /\ RelV y v := by
  intro x y us h
  cases h with
  | cons r h => cases h with
    | cons q h => cases h; exact ⟨_, _, rfl, r, q⟩
theorem Vals.zero : ∀ {us : List Value}, Vals [] us -> us = []
  | _, .nil => rfl
section
variable {X : Cx} {pins : List (Addr × Obj)} {σ : St} {H : Hp} {s : Shared} {l b : Addr} {xs ys zs : List V}
theorem Inv.lset {its its' : List Value} {n : Nat} {f : Array Value -> Array Value} {t' : Nat} (I : Inv X pins σ H s) (hH : H l = some (.lst xs))
    (e : s.heap.get? l = some { cls := .type "list", data := .seq its.toArray n }) (hf : f its.toArray = its'.toArray) (hv : Vals ys its') (hz : ys.length <= sizeLine) :
    Inv X pins σ (upd H l (.lst ys)) { s with heap := s.heap.update l (Obj.mapSeq f), toks := t' } := by
  have q := PySem.IsL.update e f
  rw [hf] at q
  refine I.write (x := l) (e := l) (by rw [hH]; exact trivial) (.inl rfl) (fun b' u hb hu => (Heap.get?_update_other s.heap (Obj.mapSeq f) (Ne.symm hb)).trans hu) ⟨_, q⟩ ?_
  exact ⟨hz, its', _, hv, q⟩
theorem Inv.lnew {its : List Value} {t' : Nat} (I : Inv X pins σ H s) (hv : Vals ys its) (hz : ys.length <= sizeLine) :
    Inv X pins σ (upd H s.heap.objs.size (.lst ys)) { s with heap := s.heap.push { cls := .type "list", data := .seq its.toArray }, toks := t' } :=
  I.laid (fun _ _ q => Heap.get?_push_of_some _ q) (Nat.le_refl _) ⟨hz, its, 0, hv, Heap.get?_push_size _ rfl⟩
theorem Inv.fresh (I : Inv X pins σ H s) : H s.heap.objs.size = none := I.hok.fresh (Nat.le_refl _)
theorem Inv.lstM (I : Inv X pins σ H s) (hH : H l = some (.lst xs)) : xs.length <= sizeLine /\ ∃ (its : List Value) (n : Nat), Vals xs its /\ xs.length = its.length /\ s.heap.get? l = some { cls := .type "list", data := .seq its.toArray n } := by
  obtain ⟨z, its, n, r, e⟩ := I.hok l _ hH
  exact ⟨z, its, n, r, r.length, e⟩
theorem notLongL {n : Nat} (h : n <= sizeLine) : Builtin.List.listTooLong n = false := by
  unfold Builtin.List.listTooLong
  exact decide_eq_false (by lia)
end
section
variable {X : Cx}
def rAppend : V -> List V -> Hp -> VK -> Prop := fun x vs H Q => ∃ l xs y, x = .ref l /\ vs = [y] /\ H l = some (.lst xs) /\ xs.length < sizeLine /\ Q .non (upd H l (.lst (xs ++ [y])))
theorem mt_append : MtM X "list.append" rAppend := by
  intro pins s σ H x vs v us Q I rx rv h
  obtain ⟨l, xs, y, rfl, rfl, hH, hz, q⟩ := h
  cases rx
  obtain ⟨u, rfl, ru⟩ := rv.one
  obtain ⟨z, its, n, r, hl, e⟩ := I.lstM hH
  refine call_meets F.slot_list_append ⟨_, e, rfl⟩ F.entry_list_append (F.args_list_append_2 _ _) (PySem.list_append l its.toArray n u (by rw [List.size_toArray]; lia)) ⟨e, ?_⟩
  refine ⟨.non, _, I.lset (its' := its ++ [u]) hH e (by simp) (r.append (.cons ru .nil)) ?_, rfl, q⟩
  rw [List.length_append, List.length_singleton]
  lia
def rExtend : V -> List V -> Hp -> VK -> Prop := fun x vs H Q => ∃ l b xs zs, x = .ref l /\ vs = [.ref b] /\ H l = some (.lst xs) /\ H b = some (.lst zs) /\ xs.length + zs.length <= sizeLine /\ Q .non (upd H l (.lst (xs ++ zs)))
theorem mt_extend : MtM X "list.extend" rExtend := by
  intro pins s σ H x vs v us Q I rx rv h
  obtain ⟨l, b, xs, zs, rfl, rfl, hH, hB, hz, q⟩ := h
  cases rx
  obtain ⟨u, rfl, ru⟩ := rv.one
  cases ru
  obtain ⟨z, its, n, r, hl, e⟩ := I.lstM hH
  obtain ⟨z2, its2, n2, r2, hl2, e2⟩ := I.lstM hB
  have hsz : its.toArray.size + its2.toArray.size <= sizeLine := by rw [List.size_toArray, List.size_toArray]; lia
  have hlong : ¬ (!its.toArray.isEmpty && Builtin.List.listTooLong (its.toArray.size + its2.toArray.size)) = true := by
    rw [notLongL hsz, Bool.and_false]
    exact Bool.false_ne_true
  refine call_meets F.slot_list_extend ⟨_, e, rfl⟩ F.entry_list_extend (F.args_list_extend_2 _ _)
    (AutoSeq1.list_extend_list_list_0 l its.toArray n b its2.toArray n2 hlong (by rw [List.size_toArray]; lia) (by lia)) ⟨e, e2, ?_⟩
  refine ⟨.non, _, I.lset (its' := its ++ its2) hH e (by simp) (r.append r2) ?_, rfl, q⟩
  rw [List.length_append]
  lia
def rCat : R2 := fun x y H Q => ∃ l b xs zs, x = .ref l /\ y = .ref b /\ H l = some (.lst xs) /\ H b = some (.lst zs) /\ xs.length + zs.length <= sizeLine /\ ∀ p, H p = none -> Q (.ref p) (upd H p (.lst (xs ++ zs)))
theorem op_cat : OpR X (binaryOp .Add) rCat := by
  intro pins s σ H x y v u Q I rx ry h
  obtain ⟨l, b, xs, zs, rfl, rfl, hH, hB, hz, q⟩ := h
  cases rx
  cases ry
  obtain ⟨z, its, n, r, hl, e⟩ := I.lstM hH
  obtain ⟨z2, its2, n2, r2, hl2, e2⟩ := I.lstM hB
  refine PySem.P.add_list e e2 ?_ (by rw [List.size_toArray, List.size_toArray]; lia)
  have ea : its.toArray ++ its2.toArray = (its ++ its2).toArray := by simp
  rw [ea]
  exact ⟨.ref _, _, I.lnew (t' := s.toks) (r.append r2) (by rw [List.length_append]; lia), rfl, q _ I.fresh⟩
end
section
variable {prog : Program} {w : World} {A : Around} {E : Value -> Shared -> Prop} {s : Shared}
set_option maxRecDepth 100000 in
end
section
variable {X : Cx}
end
end L2
namespace Att
open PySem PySem.W PySem.Calls PyProof.Rows
theorem ints_of_wellAll {P : Params} {h : Heap} : ∀ (ns : List Int) (vs : List Value), WellAll P h vs (ns.map WData.int) -> IntsAre vs ns := by
  intro ns
  induction ns with
  | nil =>
    intro vs w
    rw [List.map_nil] at w
    cases w
    exact .nil
  | cons n ns ih =>
    intro vs w
    rw [List.map_cons] at w
    cases w with
    | cons a b =>
      cases a
      exact .cons _ _ (ih _ b)
theorem script_of {l : OpenLaw} {n : Nat} (hn : l.most = some n) {P : Params} {h : Heap} {args : List WData} {vals : List Value}
    (hpre : l.row.toRowW.claim.pre args = true) (hwl : WellAll P h vals args) :
    ∃ a vs ns, vals = [Value.ref a] /\ args = [WData.list (ns.map WData.int)] /\ h.get? a = some { cls := .type "list", data := .seq vs.toArray } /\ IntsAre vs ns /\ ns.length <= n := by
  have hsh : WShape.hasAll [] args [.list .int] = true := (pre_splitW hpre).1
  have hc : l.pre.holds [] { args := args } = true := (pre_splitW hpre).2
  obtain ⟨d, r, rfl, h1, h2⟩ := hasAllW_cons hsh
  obtain rfl := hasAllW_nil h2
  obtain ⟨xs, rfl, h3⟩ := hasW_list h1
  obtain ⟨ns, rfl⟩ := items_int h3
  have hlen : ns.length <= n := by
    unfold OpenLaw.pre at hc
    have h4 : (WTm.not (.lt (.lit (.int (n : Int))) (.len (.arg 0)))).holds [] { args := [.list (ns.map .int)] } = true := by
      have h4 := (holds_andW hc).1
      rw [hn] at h4
      exact h4
    have h5 := condW_of h4 (w_not (w_lt w_lit (w_len_list (w_arg rfl))))
    rw [List.length_map] at h5
    refine Nat.le_of_not_lt fun q => ?_
    have q' : (n : Int) < ((ns.length : Nat) : Int) := by lia
    first
      | (rw [decide_eq_true q'] at h5; exact absurd h5 (by decide))
      | (simp at h5; lia)
  cases hwl with
  | cons w1 w2 =>
    cases w2
    cases w1 with
    | list ho hall => exact ⟨_, _, ns, rfl, rfl, ho, ints_of_wellAll ns _ hall, hlen⟩
theorem post_true (l : OpenLaw) (args : List WData) : l.row.toRowW.claim.post args (.bool true) args = true :=
  postW_of (r := l.row.toRowW) (X := (true == true))
    (show WShape.has [] (.bool true) .bool = true by first | rfl | decide | simp [WShape.has, WShape.arms, WShape.armsAll])
    (show (WTm.eq .res (.lit (.bool true))).value [] { args := args, res := some (.bool true), after := args } = some (.bool (true == true)) from w_eq_bool (w_res rfl) w_lit) rfl
theorem attach_call {l : OpenLaw} {n : Nat} {q : Program} {loose : List Str} {XP : (Str -> Option Value) -> Heap -> Prop} {YP : World -> Heap -> Prop} {d : DefRec}
    (hn : l.most = some n) (hdf : d.params.defaults = [])
    (call : ∀ (w : World) (s₀ s₁ : Shared) (mg mb : Str -> Option Value) (fa : Addr) (o : Obj) (pm cd doc : Value) (a : Addr) (vs : List Value) (ns : List Int),
      Ground q loose [] XP w s₀ mg mb s₁.heap -> YP w s₁.heap ->
      s₁.heap.get? fa = some o -> o.data = .func (docDef d.name d.params d.body d.scope pm cd doc) -> s₁.heap.CodeRec cd d.name -> mg d.name = some (.ref fa) ->
      s₁.heap.get? a = some { cls := .type "list", data := .seq vs.toArray } -> IntsAre vs ns -> ns.length <= n -> s₁.gens = #[] ->
      codeAny (model l.prog w) callerA (.call (.ref fa) ⟨[.ref a], []⟩) (fun r s' => r = .ok (.ret (.bool true)) /\ OldK s₁.heap s'.heap /\ s'.os = s₁.os /\ AllBare s'.gens) s₁) :
    WalkO q loose XP YP l.row.toRowW d [] (fun f vs => PySem.call f vs) := by
  intro w s₀ s₁ mg mb G Y fa o pm cd doc dV kV ho hd hcd hD hmg hg args vals as hpre hlay hrd hwl hlo
  obtain rfl : dV = .none := Dflts.none hD hdf
  obtain rfl : kV = .none := Dflts.noKw hD
  obtain ⟨a, vs, ns, rfl, rfl, hobj, hints, hlen⟩ := script_of hn hpre hwl
  refine enter_call (codeAny_mono (call w s₀ s₁ mg mb fa o pm cd doc a vs ns G Y ho (fd_plain hd) hcd hmg hobj hints hlen hg) fun r s' hq => ?_)
  obtain ⟨rfl, h2, h3, h4⟩ := hq
  exact ⟨.inl ⟨.bool true, .bool true, [], rfl, fun _ => rfl, .bool true, post_true l _, fun _ => ⟨List.Pairwise.nil, fun _ hm => (nomatch hm)⟩⟩, h2, h3, h4⟩
section
variable {prog : Program} {w : World} {A : Around} {E : Value -> Shared -> Prop} {s : Shared} {K : Frag}
end
end Att
namespace L2
open PySem PySem.Spec PyProof.Rows
theorem vals_ints : ∀ {vs : List Value} {ns : List Int}, IntsAre vs ns -> Vals (ns.map V.int) vs
  | _, _, .nil => .nil
  | _, _, .cons n t h => .cons ⟨t, rfl⟩ (vals_ints h)
def Only (H : Hp) : Prop := ∀ b, H b = none \/ ∃ o xs, H b = some (.frz o (.lst xs))
theorem law_call {P : Program} {w : World} {K : PySem.W.Frag} {mg mb : Str -> Option Value} {CX : CXT} {k : Nat} {fa a : Addr} {fd : FuncData} {x : Str} {sp : Sp} {s₁ : Shared} {vs : List Value} {ns : List Int}
    (KX : K.In s₁.heap) (hns : s₁.heap.Ns mainGlobals mg) (hb : s₁.heap.Ns builtinsNs mb) (hbb : ∀ x : Str, x ≠ "__name__" -> mb x = bootBuiltins x) (hlim : s₁.heap.NoLimit) (hg : s₁.gens = #[])
    (ha : s₁.heap.get? a = some { cls := .type "list", data := .seq vs.toArray }) (hi : IntsAre vs ns) (hl : ns.length <= sizeLine) (hr : Room k callerA)
    (F : ∀ base : Heap, K.In base -> base.Ns mainGlobals mg -> FnOk P w K mg base CX k fa fd [x] sp) (hbind : ∀ (s : Shared) (u : Value), BindsTo s fd ⟨[u], []⟩ [(x, u)])
    (hsp : ∀ H : Hp, Only H -> SqL K H a (ns.map V.int) -> sp [.ref a] H (fun v _ => v = .bl true) fun _ _ _ => False)
    (hCX : ∀ H e s', CX [] H s₁ (fun _ _ _ => False) e s' -> False) :
    codeAny (model P w) callerA (.call (.ref fa) ⟨[.ref a], []⟩) (fun r s' => r = .ok (.ret (.bool true)) /\ OldK s₁.heap s'.heap /\ s'.os = s₁.os /\ AllBare s'.gens) s₁ := by
  have rv := vals_ints hi
  have lenV := hi.length
  have core : ∀ H : Hp, Only H -> SqL K H a (ns.map V.int) -> HOk P w H s₁.heap -> (∀ b, H b ≠ none -> b = a) -> (H a ≠ none -> K.lookup a = none) ->
      codeAny (model P w) callerA (.call (.ref fa) ⟨[.ref a], []⟩) (fun r s' => r = .ok (.ret (.bool true)) /\ OldK s₁.heap s'.heap /\ s'.os = s₁.os /\ AllBare s'.gens) s₁ := by
    intro H hO hS hok hA hK
    have base_of : ∀ {b : Addr} {o : Obj}, s₁.heap.get? b = some o -> H b = none -> (hidT s₁.heap H).get? b = some o := fun e n => hidT_get e n
    have noA : ∀ {b : Addr} {o : Obj} {es : Array DictEntry} {ep : Nat}, s₁.heap.get? b = some o -> o.data = .dict es ep -> H b = none := fun {b o es ep} e d => by
      cases q : H b with
      | none => rfl
      | some u =>
        have e' : b = a := hA b (by rw [q]; simp)
        subst e'
        rw [ha] at e; cases e
        have d' : Data.seq vs.toArray _ = Data.dict es ep := d
        cases d'
    have nsK : ∀ {b : Addr} {m : Str -> Option Value}, s₁.heap.Ns b m -> (hidT s₁.heap H).Ns b m := fun {b m} ⟨o, es, ep, e, d, r⟩ => ⟨o, es, ep, base_of e (noA e d), d, r⟩
    have hKb : K.In (hidT s₁.heap H) := fun b o e => base_of (KX b o e) (by
      cases q : H b with
      | none => rfl
      | some u =>
        have e' : b = a := hA b (by rw [q]; simp)
        subst e'
        rw [hK (by rw [q]; simp)] at e; cases e)
    have hM : Mod K mg (hidT s₁.heap H) := ⟨hKb, nsK hns, ⟨mb, nsK hb, hbb⟩, let ⟨mc, h1, h2⟩ := hlim; ⟨mc, nsK h1, h2⟩⟩
    have e0 : Env0 P w K mg (hidT s₁.heap H) callerA [] s₁ H := ⟨rfl, hM, fun b o e => of_hidT e, Nat.le_of_eq (hidT_size _ _), trivial, fun b hb => absurd (show b ∈ ([] : List Addr) from hb) (by simp), hok, .of_eq hg⟩
    refine codeAny_mono ((F _ hKb (nsK hns)).run callerA [] s₁ H ⟨[.ref a], []⟩ [.ref a] [.ref a] _ _ hr e0 (hbind s₁ (.ref a)) (.cons rfl .nil) (hsp H hO hS)) fun r s' h => ?_
    cases r with
    | error e => exact (hCX H e s' h).elim
    | ok fl =>
      cases fl with
      | next => exact False.elim h
      | brk => exact False.elim h
      | cont => exact False.elim h
      | ret u =>
        obtain ⟨v, H', os, bare, un, hok', r', q⟩ := h
        have q' : v = .bl true := q
        subst q'
        obtain rfl : u = Value.bool true := r'
        refine ⟨rfl, OldK.of_keep fun b o e => ?_, os, bare⟩
        cases q : H b with
        | none => exact un.keep b o e q (by intro z; exact absurd (show b ∈ ([] : List Addr) from z) (by simp)) (by simp)
        | some u =>
          rcases hO b with z | ⟨ob, xs, z⟩
          · rw [q] at z; cases z
          · have z2 := un.frzs b ob _ z
            obtain ⟨e1, _⟩ := hok b _ z
            obtain ⟨e2, _⟩ := hok' b _ z2
            rw [e] at e1; cases e1
            exact e2
  cases hk : K.lookup a with
  | some o =>
    have e := KX a o hk
    rw [ha] at e
    cases e
    refine core (fun _ => none) (fun _ => .inl rfl) (.inr ⟨_, vs.toArray, _, hk, rfl, rfl, rfl, by rw [List.size_toArray, lenV]; exact hl, by simpa using rv⟩) (fun b u z => by have z' : (none : Option HO) = some u := z; cases z') (fun b z => absurd rfl z) fun z => absurd rfl z
  | none =>
    refine core (fun b => if b = a then some (.frz { cls := .type "list", data := .seq vs.toArray } (.lst (ns.map V.int))) else none) (fun b => ?_) (.inl (.inr ⟨{ cls := .type "list", data := .seq vs.toArray }, if_pos rfl⟩)) (fun b u z => ?_) (fun b z => ?_) fun _ => hk
    · by_cases hb : b = a
      · exact .inr ⟨_, _, if_pos hb⟩
      · exact .inl (if_neg hb)
    · by_cases hb : b = a
      · have z' := (if_pos hb).symm.trans z
        cases z'
        subst hb
        exact ⟨ha, by rw [List.length_map]; exact hl, vs, _, rv, ha⟩
      · have z' := (if_neg hb).symm.trans z
        cases z'
    · by_cases hb : b = a
      · exact hb
      · exact absurd (if_neg hb) z
abbrev KOf {K : PySem.W.Frag} {h : Heap} (_ : K.In h) : PySem.W.Frag := K
theorem walk_of {l : PySem.W.OpenLaw} {n k : Nat} {q : Program} {loose : List Str} {XP : (Str -> Option Value) -> Heap -> Prop} {YP : World -> Heap -> Prop} {d : DefRec} {K : Params -> PySem.W.Frag} {CX : World -> CXT} {sp : World -> Sp} {x : Str}
    (hn : l.most = some n) (hn2 : n <= sizeLine) (hdf : d.params.defaults = []) (hr : Room k callerA)
    (hY : ∀ (w : World) (h : Heap), YP w h -> (K w.params).In h)
    (F : ∀ (w : World) (mg : Str -> Option Value) (fa : Addr) (h : Heap), (K w.params).In h -> h.Ns mainGlobals mg -> mg d.name = some (.ref fa) ->
      ∃ fd : FuncData, (∀ (s : Shared) (u : Value), BindsTo s fd ⟨[u], []⟩ [(x, u)]) /\
        ∀ base : Heap, (K w.params).In base -> base.Ns mainGlobals mg -> FnOk l.prog w (K w.params) mg base (CX w) k fa fd [x] (sp w))
    (hsp : ∀ (w : World) (H : Hp) (a : Addr) (ns : List Int), ns.length <= n -> Only H -> SqL (K w.params) H a (ns.map V.int) -> sp w [.ref a] H (fun v _ => v = .bl true) fun _ _ _ => False)
    (hCX : ∀ (w : World) (H : Hp) (s : Shared) (e : Value) (s' : Shared), CX w [] H s (fun _ _ _ => False) e s' -> False) :
    PySem.W.WalkO q loose XP YP l.row.toRowW d [] (fun f vs => PySem.call f vs) := by
  refine Att.attach_call hn hdf fun w s₀ s₁ mg mb fa o pm cd doc a vs ns G Y ho hd hcd hmg hobj hints hlen hg => ?_
  have KX := hY w _ Y
  obtain ⟨fd, hb, hF⟩ := F w mg fa _ KX G.T.g hmg
  exact law_call KX G.T.g G.T.b G.T.builtins G.T.nolimit hg hobj hints (Nat.le_trans hlen hn2) hr hF hb (fun H hO hS => hsp w H a ns hlen hO hS) fun H e s' => hCX w H s₁ e s'
end L2
/- THE LAST THEOREM (shape; LID, My.* are yours):
   My.Adr: a structure of the addresses that your layer names (classes, functions); My.Txt K t: a structure (Prop) of the equations over K;
   My.txt_mk : {K} {implicit addresses ..} (e1 : nsIn K mainGlobals "law" = some (some (.ref f))) (e2 : K.lookup f = some ⟨oc, od, .func (fnOf "law" "law" params body scope dV kV doc pm an cdv ct), sl⟩) (e3 : codeIn K cdv "law" = true) .. : ∃ t, My.Txt K t
set_option maxRecDepth 100000 in
set_option maxHeartbeats 0 in
theorem PySem.Challenge.cw_LID_holds : PySem.Challenge.rw_LID.Holds := by
  w_on; o_law; k_head; (case hw => w_witness2)
  k_fill
  refine L2.walk_of (l := PySem.Challenge.rw_LID) (n := 63) (k := 40) (x := "script") (CX := fun w => ..) (sp := fun _ => My.sp_law) rfl (by decide) rfl ⟨rfl, by decide, by decide⟩ (fun w h Y => PySem.W.kIn_of Y) ?F ?S ?C
  case F =>
    intro w mg fa h KX G hmg
    have T : ∃ t, My.Txt (L2.KOf KX) t := by
      dsimp only [L2.KOf]                          -- K must stand as «<heap const> w.params» for k_is
      refine' My.txt_mk ?e1 ?e2 ?e3 ..
      (case e1 => PySem.W.k_is)                    -- in the order: a name -> its address -> its object -> its parts
      (case e2 => PySem.W.k_is)
      ..
    obtain ⟨t, T⟩ := T
    have e0 := hmg.symm.trans (PySem.W.mg_of KX G T.law)
    cases e0                                       -- fa is the law's own address
    exact ⟨_, fun s u => .of_eq rfl, fun base kb nb => My.law_fn T kb nb⟩     -- if «.of_eq rfl» comes too early: refine' ⟨_, ?b, fun base kb nb => My.law_fn T kb nb⟩; exact fun s u => .of_eq rfl
  case S => exact fun w H a ns hl hO hS => ..
  case C => exact ..
(the tactic k_is has no namespace: write k_is) -/
namespace L2
open PySem PySem.Spec PyProof.Rows
def inClass (s : Stmt) (j : Nat) : Stmt := match s with
  | .ClassDef _ _ _ body _ _ _ _ _ _ _ => body.getD j (.Pass ⟨0, 0, 0, 0⟩)
  | _ => .Pass ⟨0, 0, 0, 0⟩
def defArgs (s : Stmt) : Arguments := match s with
  | .FunctionDef _ a _ _ _ _ _ _ _ _ => a
  | _ => { posonlyargs := [], args := [], vararg := none, kwonlyargs := [], kw_defaults := [], kwarg := none, defaults := [] }
def defBody (s : Stmt) : List Stmt := match s with
  | .FunctionDef _ _ b _ _ _ _ _ _ _ => b
  | _ => []
def defScope (s : Stmt) : Scope := match s with
  | .FunctionDef _ _ _ _ _ _ sc _ _ _ => sc
  | _ => { kind := .function, names := [], isGenerator := false, isCoroutine := false }
abbrev CX0 : CXT := fun _ _ _ _ _ _ => False
abbrev E0 : XK := fun _ _ _ => False
theorem pass0 {X : Cx} : Passes CX0 X E0 := fun _ _ _ _ _ _ _ h => h.elim
structure Fun (K : PySem.W.Frag) (x qual : Str) (st : Stmt) (f : Addr) (fd : FuncData) : Prop where
  ex : ∃ (oc : Value) (od : Option Addr) (kV doc pm : Value) (an : Option Addr) (cdv ct : Value) (osl : Array (Option Value)),
    fd = PySem.W.fnOf x qual (defArgs st) (defBody st) (defScope st) .none kV doc pm an cdv ct /\ K.lookup f = some ⟨oc, od, .func fd, osl⟩ /\ PySem.W.codeIn K cdv qual = true
  kp : PySem.W.keepIn K (.ref f) = true
section
variable {P : Program} {w : World} {K : PySem.W.Frag} {mg : Str -> Option Value} {base : Heap}
theorem Fun.ok {x qual : Str} {st : Stmt} {f : Addr} {fd : FuncData} {N ps : List Str} {k : Nat} {sp : Sp} (F : Fun K x qual st f fd) (S : FnScope N ps (defScope st)) (len : ∀ vs H Q E, sp vs H Q E -> vs.length = ps.length)
    (hbody : ∀ (cdv : Value) (A : Around) (outer : List Env) (s : Shared) (H : Hp) (vs : List V) (Q : VK) (E : XK), Room k (A.deeper (envOfC qual (defScope st) s.heap.objs.size f cdv)) -> sp vs H Q E ->
      ∃ t, PSs (cxOf CX0 P w K mg base N qual (defScope st) f cdv A outer s H E).nox (defBody st) t /\ t { nx := fun _ H' => Q .non H', rt := Q } (start N vs) H) : FnOk P w K mg base CX0 (k + 1) f fd ps sp := by
  obtain ⟨oc, od, kV, doc, pm, an, cdv, ct, osl, rfl, lk, hcd⟩ := F.ex
  refine fn_of lk hcd S len fun A outer s H vs Q E hr hsp => ?_
  obtain ⟨t, h, q⟩ := hbody cdv A outer s H vs Q E hr hsp
  exact ⟨t, h.nox, q⟩
theorem Fun.binds {x qual : Str} {st : Stmt} {f : Addr} {fd : FuncData} {ps : List Str} (F : Fun K x qual st f fd)
    (h : ∀ (kV doc pm : Value) (an : Option Addr) (cdv ct : Value) (us : List Value), us.length = ps.length -> bindArgs (PySem.W.fnOf x qual (defArgs st) (defBody st) (defScope st) .none kV doc pm an cdv ct) ⟨us, []⟩ = pure (ps.zip us)) : Binds K fd ps [] := by
  obtain ⟨oc, od, kV, doc, pm, an, cdv, ct, osl, rfl, lk, hcd⟩ := F.ex
  exact .all (h kV doc pm an cdv ct)
theorem fun_mk {x qual : Str} {st : Stmt} {f : Addr} {oc : Value} {od an : Option Addr} {osl : Array (Option Value)} {kV doc pm cdv ct : Value} (l : K.lookup f = some ⟨oc, od, .func (PySem.W.fnOf x qual (defArgs st) (defBody st) (defScope st) .none kV doc pm an cdv ct), osl⟩)
    (c : PySem.W.codeIn K cdv qual = true) (k : PySem.W.keepIn K (.ref f) = true) : Fun K x qual st f (PySem.W.fnOf x qual (defArgs st) (defBody st) (defScope st) .none kV doc pm an cdv ct) := ⟨⟨oc, od, kV, doc, pm, an, cdv, ct, osl, rfl, l, c⟩, k⟩
end
section
variable {X : Cx}
theorem pv (i : Nat) {x : Str} {pos : Pos} (hN : X.N[i]? = some x := by rfl) (hv : Vis X.env.scope x := by first | exact Or.inl rfl | exact Or.inr (Or.inl rfl) | exact Or.inr (Or.inr rfl)) (hd : (x == ("__debug__" : Str)) = false := by decide)
    (hcd : (x == ("__classdict__" : Str)) = false := by decide) : PE X (.Name x pos) (tVar i) := pe_var hN hv hd hcd
end
theorem iteF {A B : Prop} (h : B) : if false = true then A else B := by
  rw [if_neg Bool.false_ne_true]
  exact h
theorem iteT {A B : Prop} (h : A) : if true = true then A else B := by
  rw [if_pos rfl]
  exact h
theorem ite2 {c A B : Prop} [Decidable c] (h1 : c -> A) (h2 : ¬ c -> B) : if c then A else B := by
  by_cases h : c
  · rw [if_pos h]
    exact h1 h
  · rw [if_neg h]
    exact h2 h
theorem iteNS {c A B : Prop} [Decidable c] (hc : c) (h : B) : if (!decide c) = true then A else B := by
  rw [decide_eq_true hc]
  exact iteF h
def Same (H H' : Hp) : Prop := ∀ b o, H b = some o -> H' b = some o
theorem Same.refl (H : Hp) : Same H H := fun _ _ h => h
theorem Same.trans {H H1 H2 : Hp} (a : Same H H1) (b : Same H1 H2) : Same H H2 := fun c o h => b c o (a c o h)
theorem Same.free {H H' : Hp} (e : Same H H') {l : Addr} (h : H' l = Option.none) : H l = Option.none := by
  cases q : H l with
  | none => rfl
  | some o =>
    rw [e l o q] at h
    cases h
theorem Same.seq {K : PySem.W.Frag} {H H' : Hp} {a : Addr} {xs : List V} (e : Same H H') (h : SqL K H a xs) : SqL K H' a xs := by
  rcases h with (h | ⟨o, h⟩) | h
  · exact .inl (.inl (e _ _ h))
  · exact .inl (.inr ⟨o, e _ _ h⟩)
  · exact .inr h
def PIfs (X : Cx) (ifs : List Expr) (t : TT) : Prop :=
  ∀ (pins : List (Addr × Obj)) (s : Shared) (σ : St) (H : Hp) (Q : Bool -> Hp -> Prop), Inv X pins σ H s -> t σ H Q ->
    wpAny (model X.prog X.w) X.A (forIn ifs true fun c r => if r = true then do
      let ok <- isTrue c X.env (eval c X.env)
      pure (ForInStep.yield ok) else pure (ForInStep.yield r)) (TP X pins σ Q) X.xe s
def tYes : TT := fun _ H Q => Q true H
theorem pifs_nil {X : Cx} : PIfs X [] tYes := fun _ _ _ H _ I h => wpAny_tests_nil ⟨H, I, h⟩
theorem pifs_one {X : Cx} {c : Expr} {t : TT} (h : PT X c t) : PIfs X [c] t := fun pins s σ H Q I hw => wpAny_tests_one (h pins s σ H Q I hw)
def clOf (env : Env) : List (Str × NameKind) -> List (Str × Addr) -> List (Str × Addr)
  | [], cs => cs
  | (n, k) :: r, cs => clOf env r (if (k == NameKind.free) = true then (n, (env.cells.lookup n).getD 0) :: cs else cs)
theorem clOf_loop {env : Env} : ∀ (names : List (Str × NameKind)) (cs : List (Str × Addr)), (∀ x ∈ names, x.2 = .free -> ∃ c, env.cells.lookup x.1 = some c) ->
    (forIn names cs fun (x : Str × NameKind) (r : List (Str × Addr)) => (if (x.2 == NameKind.free) = true then do
      let a <- cellOf env x.1
      pure (ForInStep.yield ((x.1, a) :: r)) else pure (ForInStep.yield r) : Sem (ForInStep (List (Str × Addr))))) = pure (clOf env names cs)
  | [], cs, _ => rfl
  | (n, k) :: r, cs, h => by
    rw [List.forIn_cons]
    by_cases hk : (k == NameKind.free) = true
    · obtain ⟨c, hc⟩ := h (n, k) List.mem_cons_self (by simpa using hk)
      have hc' : env.cells.lookup n = some c := hc
      have e1 : cellOf env n = pure c := by unfold cellOf; rw [hc']
      simp only [hk, if_true, e1, pure_bind]
      rw [clOf_loop r _ fun x hx => h x (List.mem_cons_of_mem _ hx)]
      simp [clOf, hk, hc']
    · simp only [hk, pure_bind]
      rw [if_neg (by simp), pure_bind]
      dsimp only
      rw [clOf_loop r _ fun x hx => h x (List.mem_cons_of_mem _ hx)]
      simp [clOf, hk]
theorem closure_is {scope : Scope} {env : Env} (h : ∀ x ∈ scope.names, x.2 = .free -> ∃ c, env.cells.lookup x.1 = some c) : closureFor scope env = pure (clOf env scope.names []) := by
  have e := clOf_loop scope.names [] h
  simp only [closureFor]
  first
    | (rw [e]; rfl)
    | (refine Eq.trans (congrArg (fun t => t >>= _) e) ?_; rfl)
    | (simp only [e]; rfl)
theorem clOf_get {env : Env} {x : Str} {c : Addr} : ∀ (names : List (Str × NameKind)) (cs : List (Str × Addr)), (∀ y ∈ names, y.2 = .free -> ∃ d, env.cells.lookup y.1 = some d) ->
    (clOf env names cs).lookup x = some c -> cs.lookup x = some c \/ env.cells.lookup x = some c
  | [], cs, _, e => .inl e
  | (n, k) :: r, cs, h, e => by
    have e' : (clOf env r (if (k == NameKind.free) = true then (n, (env.cells.lookup n).getD 0) :: cs else cs)).lookup x = some c := e
    rcases clOf_get r _ (fun y hy => h y (List.mem_cons_of_mem _ hy)) e' with q | q
    · by_cases hk : (k == NameKind.free) = true
      · rw [if_pos hk] at q
        obtain ⟨d, hd⟩ := h (n, k) List.mem_cons_self (by simpa using hk)
        have hd' : env.cells.lookup n = some d := hd
        rw [List.lookup_cons] at q
        by_cases hx : (x == n) = true
        · rw [hx] at q
          have ex : x = n := by simpa using hx
          subst ex
          rw [hd'] at q
          simp at q
          exact .inr (by rw [hd', q])
        · simp only [hx] at q
          exact .inl q
      · rw [if_neg hk] at q
        exact .inl q
    · exact .inr q
theorem clOf_keep {env : Env} {x : Str} : ∀ (names : List (Str × NameKind)) (cs : List (Str × Addr)), (∃ c, cs.lookup x = some c) -> ∃ c, (clOf env names cs).lookup x = some c
  | [], cs, h => h
  | (n, k) :: r, cs, h => by
    refine clOf_keep r _ ?_
    by_cases hk : (k == NameKind.free) = true
    · rw [if_pos hk, List.lookup_cons]
      cases hx : x == n with
      | true => exact ⟨_, rfl⟩
      | false => exact h
    · rw [if_neg hk]; exact h
theorem clOf_has {env : Env} {x : Str} : ∀ (names : List (Str × NameKind)) (cs : List (Str × Addr)), (x, NameKind.free) ∈ names -> ∃ c, (clOf env names cs).lookup x = some c
  | (n, k) :: r, cs, h => by
    show ∃ c, (clOf env r (if (k == NameKind.free) = true then (n, (env.cells.lookup n).getD 0) :: cs else cs)).lookup x = some c
    rcases List.mem_cons.mp h with e | e
    · cases e
      refine clOf_keep r _ ⟨(env.cells.lookup x).getD 0, ?_⟩
      rw [if_pos (by rfl), List.lookup_cons]
      simp
    · exact clOf_has r _ e
def relN (env : Env) (names : List (Str × NameKind)) : List (Str × NameKind) :=
  names.map fun (n, k) => if (k == NameKind.free && env.scope.kind == .function && env.kindOf n == some .cell) then (n, NameKind.cell) else (n, k)
theorem relN_get {env : Env} {x : Str} {k' : NameKind} : ∀ (names : List (Str × NameKind)), (relN env names).lookup x = some k' -> ∃ k, names.lookup x = some k /\ (k' = k \/ (k = .free /\ k' = .cell))
  | [], h => by simp [relN] at h
  | (n, k) :: r, h => by
    have ih := relN_get (env := env) (x := x) (k' := k') r
    have h' : ((if (k == NameKind.free && env.scope.kind == .function && env.kindOf n == some .cell) = true then (n, NameKind.cell) else (n, k)) :: relN env r).lookup x = some k' := h
    by_cases hc : (k == NameKind.free && env.scope.kind == .function && env.kindOf n == some .cell) = true
    · rw [if_pos hc, List.lookup_cons] at h'
      rw [List.lookup_cons]
      cases hx : x == n with
      | true =>
        rw [hx] at h'
        have h2 : NameKind.cell = k' := Option.some.inj h'
        have hk : k = .free := by
          cases k <;> first | rfl | (simp at hc)
        exact ⟨k, rfl, .inr ⟨hk, h2.symm⟩⟩
      | false =>
        rw [hx] at h'
        exact ih h'
    · rw [if_neg hc, List.lookup_cons] at h'
      rw [List.lookup_cons]
      cases hx : x == n with
      | true =>
        rw [hx] at h'
        exact ⟨k, rfl, .inl (Option.some.inj h').symm⟩
      | false =>
        rw [hx] at h'
        exact ih h'
def cxComp (X : Cx) (scope : Scope) (N' : List Str) (fp : List Addr) (C : Addr) (s : Shared) (H : Hp) : Cx where
  prog := X.prog
  w := X.w
  K := X.K
  mg := X.mg
  base := X.base
  A := X.A
  N := N'
  s₀ := s
  H₀ := H
  env := compEnvC scope (clOf X.env scope.names []) C X.env
  outer := X.stack
  stack := X.stack
  ex := fp
  fn := fun _ => false
  calm := true
  pn := X.pn
  xe := fun _ _ => False
def stComp (fr : List (Option Nat)) (σ : St) : St := fr.map fun o => o.bind fun j => (σ[j]?).join
def frOk (N : List Str) (kinds names : List (Str × NameKind)) (N' : List Str) (fr : List (Option Nat)) : Bool :=
  (N'.length == fr.length) && (N'.zip fr).all fun p => match p.2 with
    | none => true
    | some j => N[j]? == some p.1 && names.lookup p.1 == some NameKind.free && (kinds.lookup p.1 == some NameKind.cell || kinds.lookup p.1 == some NameKind.free)
theorem frOk_at {N : List Str} {kinds names : List (Str × NameKind)} {N' : List Str} {fr : List (Option Nat)} (h : frOk N kinds names N' fr = true) {i j : Nat} {x : Str} (h1 : N'[i]? = some x) (h2 : fr[i]? = some (some j)) :
    N[j]? = some x /\ names.lookup x = some NameKind.free /\ (kinds.lookup x = some NameKind.cell \/ kinds.lookup x = some NameKind.free) := by
  unfold frOk at h
  rw [Bool.and_eq_true, List.all_eq_true] at h
  have hm : (x, some j) ∈ N'.zip fr := by
    refine List.mem_of_getElem? (i := i) ?_
    rw [List.getElem?_zip_eq_some]
    exact ⟨h1, h2⟩
  have q := h.2 _ hm
  simp only [Bool.and_eq_true, Bool.or_eq_true, beq_iff_eq] at q
  exact ⟨q.1.1, q.1.2, q.2⟩
structure CompOk (X : Cx) (scope : Scope) (N' : List Str) (fr : List (Option Nat)) : Prop where
  kind : scope.kind = .function
  cells : ∀ y ∈ scope.names, y.2 ≠ .cell
  names : ∀ y ∈ scope.names, y.2 = .local -> scope.names.lookup y.1 = some .local
  frees : ∀ y ∈ scope.names, y.2 = .free -> X.env.kindOf y.1 = some .cell \/ X.env.kindOf y.1 = some .free
  fr : frOk X.N X.env.scope.names scope.names N' fr = true
section
variable {X : Cx} {scope : Scope} {N' : List Str} {fr : List (Option Nat)} {pins : List (Addr × Obj)} {σ : St} {H : Hp} {s : Shared} {fp : List Addr}
theorem CompOk.has (c : CompOk X scope N' fr) (ok : X.Ok) : ∀ y ∈ scope.names, y.2 = .free -> ∃ d, X.env.cells.lookup y.1 = some d := fun y hy h => ok.has _ (c.frees y hy h)
theorem inv_comp {C : Addr} {h' : Heap} {tk : Nat} {m : Str -> Option Value} (c : CompOk X scope N' fr) (hc : X.calm = true) (I : Inv X pins σ H s) (hf : ∀ b ∈ fp, FpOk X pins H b) (hlt : ∀ b ∈ fp, b < s.heap.objs.size)
    (old : ∀ b o, s.heap.get? b = some o -> h'.get? b = some o) (hC : s.heap.objs.size <= C) (hn : h'.Ns C m) :
    Inv (cxComp X scope N' fp C s H) pins (stComp fr σ) H { s with heap := h', toks := tk } := by
  have get : ∀ x d, (clOf X.env scope.names []).lookup x = some d -> X.env.cells.lookup x = some d := fun x d e => by
    rcases clOf_get scope.names [] (c.has I.ok) e with q | q
    · simp at q
    · exact q
  have old2 : ∀ b, b < s.heap.objs.size -> b ≠ C := fun b hb => Nat.ne_of_lt (Nat.lt_of_lt_of_le hb hC)
  have hl : (stComp fr σ).length = N'.length := by
    have q := c.fr
    unfold frOk at q
    rw [Bool.and_eq_true] at q
    have q1 : N'.length = fr.length := by simpa using q.1
    rw [stComp, List.length_map, q1]
  refine ⟨⟨I.ok.mod, c.kind, I.ok.glob, I.ok.blt, hC, ?_, ?_, (fun _ _ z => nomatch z), fun _ => I.ok.hd hc, I.ok.frames, .inl rfl, ?_, I.bs, Nat.le_trans I.ok.bsz I.sz, ?_, ?_, I.stack, I.stkFree⟩, rfl, I.bare, Un.kept old, ⟨m, hn, ?_⟩, ?_, I.hok.fresh hC, ?_, ?_, I.hok.kept old, hl⟩
  · exact fun x y d e1 e2 => I.ok.inj x y d (get x d e1) (get y d e2)
  · intro x hx
    have hx' : (relN X.env scope.names).lookup x = some .cell \/ (relN X.env scope.names).lookup x = some .free := hx
    have fin : scope.names.lookup x = some .free -> ∃ d, (clOf X.env scope.names []).lookup x = some d := fun e => clOf_has scope.names [] (PySem.mem_of_lookup e)
    rcases hx' with q | q
    · obtain ⟨k, e, z⟩ := relN_get scope.names q
      rcases z with z | ⟨z, _⟩
      · subst z
        exact absurd rfl (c.cells _ (PySem.mem_of_lookup e))
      · subst z
        exact fin e
    · obtain ⟨k, e, z⟩ := relN_get scope.names q
      rcases z with z | ⟨_, z⟩
      · subst z
        exact fin e
      · cases z
  · exact fun b hb => ⟨old2 b (hlt b hb), fun x d e => (hf b hb).2.2.2.2.1 x d (get x d e)⟩
  · intro b o e hb
    rcases (hf b hb).2.2.2.1 with z | z
    · exact I.ok.noex b o e z
    · exact absurd (Nat.lt_of_lt_of_le (Heap.lt_size e) (Nat.le_trans I.ok.bsz z)) (Nat.lt_irrefl _)
  · intro b hb hs
    rcases List.mem_cons.mp (I.stkSub b hs) with z | z
    · exact (hf b hb).2.1 z
    · exact (hf b hb).2.2.1 z
  · intro i x v e1 e2 e3
    have e2' : (fr.map fun o => o.bind fun j => (σ[j]?).join)[i]? = some (some v) := e2
    rw [List.getElem?_map] at e2'
    cases q : fr[i]? with
    | none => rw [q] at e2'; cases e2'
    | some o =>
      rw [q] at e2'
      have e3' : (o.bind fun j => (σ[j]?).join) = some v := Option.some.inj e2'
      cases o with
      | none => cases e3'
      | some j =>
        have e4 : (σ[j]?).join = some v := e3'
        have e5 : σ[j]? = some (some v) := by
          cases z : σ[j]? with
          | none => rw [z] at e4; cases e4
          | some w => rw [z] at e4; exact congrArg some e4
        obtain ⟨f1, f2, f3⟩ := frOk_at c.fr e1 q
        obtain ⟨m0, hn0, hl0⟩ := I.loc
        have vis : Vis X.env.scope x := f3.elim (fun z => .inr (.inl z)) fun z => .inr (.inr z)
        obtain ⟨u, r, look⟩ := hl0 j x v f1 e5 vis
        refine ⟨u, r, ?_⟩
        rcases look with ⟨k, _⟩ | ⟨k, d, hd, hcell⟩
        · have k' : X.env.scope.names.lookup x = some .local := k
          rcases f3 with z | z <;> (rw [k'] at z; cases z)
        · refine .inr ⟨?_, d, ?_, ?_⟩
          · have e3'' : (relN X.env scope.names).lookup x = some .local \/ (relN X.env scope.names).lookup x = some .cell \/ (relN X.env scope.names).lookup x = some .free := e3
            rcases e3'' with z | z | z
            · obtain ⟨k2, e, z2⟩ := relN_get scope.names z
              rw [f2] at e
              cases e
              rcases z2 with z2 | ⟨_, z2⟩ <;> cases z2
            · exact .inl z
            · exact .inr z
          · obtain ⟨d', e⟩ := clOf_has (env := X.env) scope.names [] (PySem.mem_of_lookup f2)
            have := get x d' e
            rw [hd] at this
            cases this
            exact e
          · obtain ⟨ob, h1, h2⟩ := hcell
            exact ⟨ob, old _ _ h1, h2⟩
  · intro x d e
    obtain ⟨v, ob, h1, h2⟩ := I.cell x d (get x d e)
    exact ⟨v, ob, old _ _ h1, h2⟩
  · exact fun x d e => I.freeC x d (get x d e)
  · intro p hp
    obtain ⟨e, n, ne, nf, dd⟩ := I.pin p hp
    refine ⟨old _ _ e, n, old2 _ (Heap.lt_size e), fun hs => ?_, dd⟩
    rcases List.mem_cons.mp (I.stkSub p.1 hs) with z | z
    · exact ne z
    · exact nf z
end
section
variable {prog : Program} {w : World} {A : Around} {R : Result -> Shared -> Prop} {s : Shared}
theorem comp_loop {elt tg iter : Expr} {ifs : List Expr} {scope : Scope} {pos : Pos} {it acc : Value} {env : Env} (J : Nat -> Shared -> Prop)
    (turn : ∀ n s, J n s -> wpAny (model prog w) A (pyNext it) (fun r s1 => match r with
      | none => R (.ok .next) s1
      | some v => wpAny (model prog w) A (letOwnedTupleGo tg it v) (fun _ s2 => wpAny (model prog w) A (assign tg env v) (fun _ s3 =>
          wpAny (model prog w) A (forIn ifs true fun c r => if r = true then do
            let ok <- isTrue c env (eval c env)
            pure (ForInStep.yield ok) else pure (ForInStep.yield r)) (fun ok s4 =>
              if ok = true then wpAny (model prog w) A (eval elt env) (fun x s5 =>
                wpAny (model prog w) A (call (.builtin "list.append") [acc, x]) (fun _ s6 => ∃ m, m < n /\ J m s6) (fun _ _ => False) s5) (fun _ _ => False) s4
              else ∃ m, m < n /\ J m s4) (fun _ _ => False) s3) (fun _ _ => False) s2) (fun _ _ => False) s1) (fun _ _ => False) s)
    (n : Nat) (h : J n s) : codeAny (model prog w) A (.compLoop (.ListComp elt [⟨tg, iter, ifs, 0⟩] scope pos) 0 it acc env) R s := by
  refine codeAny_loop rfl J (fun k s1 hJ => ?_) n h
  show wpAny _ A ((compTurn (.ListComp elt [⟨tg, iter, ifs, 0⟩] scope pos) 0 it acc env).onRaise (fun y => do noteFrame y env; theTreesLotGoes y)) _ _ s1
  refine wpAny_noted (wpAny_mono (E := fun _ _ => False) ?_ (fun _ _ q => q) fun _ _ z => z.elim)
  rw [compTurn_list]
  refine wpAny_bind (wpAny_standAt (wpAny_bind (thn (turn k s1 hJ) fun r s2 h2 => ?_)))
  cases r with
  | none => exact wpAny_pure h2
  | some v =>
    refine wpAny_bind (thn h2 fun _ s3 h3 => wpAny_bind (thn h3 fun _ s4 h4 => wpAny_bind (thn h4 fun ok s5 h5 => ?_)))
    cases ok with
    | false => exact wpAny_pure ⟨rfl, h5⟩
    | true =>
      refine wpAny_bind (wpAny_bind (thn h5 fun x s6 h6 => wpAny_bind (thn h6 fun _ s7 h7 => ?_)))
      exact wpAny_pure (wpAny_pure ⟨rfl, h7⟩)
end
theorem HOk.track {P : Program} {w : World} {H : Hp} {h : Heap} {a : Addr} {o : HO} (ok : HOk P w H h) (hn : H a = none) (new : ObjOk P w (upd H a o) h a o) : HOk P w (upd H a o) h := fun b u q => by
  by_cases hb : b = a
  · subst hb
    rw [upd_same] at q
    cases q
    exact new
  · rw [upd_ne hb] at q
    exact (ok b u q).stay (fun _ _ _ r => r) (fun c r => by rw [upd_ne (ne_of_none r hn)]; exact r) fun c xs r => by rw [upd_ne (ne_of_none r hn)]; exact r
def CompW (J : It) (g : TG) (tt : TT) (te : TE) (fin : List V -> Hp -> Prop) (W : Nat -> Nat -> List V -> St -> Hp -> Prop) : Prop :=
  ∀ i m ys σ H, W i m ys σ H -> (J.stop i H /\ ys.length <= sizeLine /\ fin ys H) \/ (J.go i H /\ ys.length < sizeLine /\ ∀ x H', J.yld i H x H' -> g x σ H' fun σ2 H2 => tt σ2 H2 fun b H3 =>
    if b = true then te σ2 H3 fun y H4 => ∃ m', m' < m /\ W (i + 1) m' (ys ++ [y]) σ2 H4 else ∃ m', m' < m /\ W (i + 1) m' ys σ2 H3)
section
variable {X : Cx} {scope : Scope} {N' : List Str} {fr : List (Option Nat)} {pins : List (Addr × Obj)} {σ : St} {H : Hp} {s : Shared} {fp : List Addr} {it : Addr} {tn : Nat -> Heap -> Prop} {J : It}
  {elt tg iter : Expr} {ifs : List Expr} {g : TG} {tt : TT} {te : TE} {pos : Pos} {fin : List V -> Hp -> Prop} {W : Nat -> Nat -> List V -> St -> Hp -> Prop} {RR : Value -> Addr -> Result -> Shared -> Prop} {E : Value -> Shared -> Prop}
theorem comp_block (c : CompOk X scope N' fr) (hc : X.calm = true) (I : Inv X pins σ H s) (T : Turn X.prog X.w X.K tg J fp it tn) (st : tn 0 s.heap) (hf : ∀ b ∈ fp, FpOk X pins H b)
    (hg : ∀ fp C s H, PG (cxComp X scope N' fp C s H) tg g) (ht : ∀ fp C s H, PIfs (cxComp X scope N' fp C s H) ifs tt) (he : ∀ fp C s H, PE (cxComp X scope N' fp C s H) elt te)
    (hW : CompW J g tt te fin W) (h0 : ∃ m, W 0 m [] (stComp fr σ) H)
    (hRR : ∀ D C ys H' s', Inv X pins σ (upd H' D (.lst ys)) s' -> (∃ m, s'.heap.Ns C m) -> FpOk X pins (upd H' D (.lst ys)) C -> H' D = none -> fin ys H' -> RR (.ref D) C (.ok .next) s') :
    wpAny (model X.prog X.w) X.A (newList []) (fun acc s3 => wpAny (model X.prog X.w) X.A (newFunctionEnv scope X.env.globals (clOf X.env scope.names []) [] X.env.qual none .none (some X.env)) (fun cenv s4 =>
      codeAny (model X.prog X.w) X.A (.compStart (.ListComp elt [⟨tg, iter, ifs, 0⟩] scope pos) 0 (.ref it) acc { cenv with scope := relabel scope X.env }) (RR acc cenv.locals) s4) E s3) E s := by
  refine wpAny_newObj_type (wpAny_newFunctionEnv c.cells (by intro y hy; simp at hy) (fun h1 hns hsb => ?_) c.kind)
  dsimp only at hns hsb ⊢
  generalize hH2 : s.heap.push { cls := .type "list", dict := none, data := .seq ([] : List Value).toArray } = H2 at hns hsb ⊢
  have hD0 : s.heap.objs.size < H2.objs.size := by rw [<- hH2, Heap.size_push]; exact Nat.lt_succ_self _
  generalize hDD : s.heap.objs.size = D at hD0 ⊢
  generalize hCC : H2.objs.size = C at hns hsb hD0 ⊢
  have up : ∀ b o, s.heap.get? b = some o -> h1.get? b = some o := fun b o e => hsb.extBut b o (by
    have := Heap.lt_size e
    rw [hDD] at this
    exact Nat.ne_of_lt (Nat.lt_trans this hD0)) (Heap.get?_push_of_some _ (by rw [<- hH2]; exact Heap.get?_push_of_some _ e))
  have accD : h1.get? D = some { cls := .type "list", dict := none, data := .seq ([] : List Value).toArray } := hsb.extBut _ _ (Nat.ne_of_lt hD0) (Heap.get?_push_of_some _ (by rw [<- hH2, <- hDD]; exact Heap.get?_push_size _ rfl))
  have hlt : ∀ b ∈ fp, b < s.heap.objs.size := fun b hb => by
    obtain ⟨o, e, _⟩ := T.obj 0 _ st b hb
    exact Heap.lt_size e
  have hle : s.heap.objs.size <= C := by rw [hDD]; exact Nat.le_of_lt hD0
  generalize hX' : cxComp X scope N' fp C s H = X'
  have I1 : Inv X' pins (stComp fr σ) H { s with heap := h1, toks := s.toks + ([] : List (Str × Value)).length } := by
    subst hX'
    exact inv_comp c hc I hf hlt up hle hns
  have st1 : tn 0 h1 := T.keep _ _ _ st fun b hb o e => up b o e
  have pm : X'.prog = X.prog := by subst hX'; rfl
  have wm : X'.w = X.w := by subst hX'; rfl
  have km : X'.K = X.K := by subst hX'; rfl
  have cm : X'.calm = true := by subst hX'; rfl
  have am : X'.A = X.A := by subst hX'; rfl
  have xm : X'.xe = fun _ _ => False := by subst hX'; rfl
  have lm : X'.env.locals = C := by subst hX'; rfl
  have szm : X'.s₀.heap.objs.size = s.heap.objs.size := by subst hX'; rfl
  have nm : X'.pn = X.pn := by subst hX'; rfl
  have hg' := hg fp C s H
  have ht' := ht fp C s H
  have he' := he fp C s H
  have em : X'.env = compEnvC scope (clOf X.env scope.names []) C X.env := by subst hX'; rfl
  have fsm : X'.fs = frs X.stack := by subst hX'; rfl
  have exm : X'.ex = fp := by subst hX'; rfl
  rw [hX'] at hg' ht' he'
  have ageP : ∀ p ∈ X.pn ++ pins, p.1 < D := fun p hp => by rw [<- hDD]; exact Heap.lt_size (I.pin p hp).1
  have ageC : ∀ x d, X'.env.cells.lookup x = some d -> d < D := fun x d e => by
    rw [em] at e
    rcases clOf_get scope.names [] (c.has I.ok) e with q | q
    · simp at q
    · obtain ⟨v, z⟩ := I.cell x d q
      rw [<- hDD]
      exact z.lt
  have cellF : ∀ x d, X'.env.cells.lookup x = some d -> X.env.cells.lookup x = some d := fun x d e => by
    rw [em] at e
    rcases clOf_get scope.names [] (c.has I.ok) e with q | q
    · simp at q
    · exact q
  have fps : ∀ {H' : Hp} {oD : Obj}, (∀ b ∈ fp, H' b = none) -> ∀ b ∈ fp, FpOk X' (pins ++ [(D, oD)]) H' b := fun {H' oD} hn b hb => by
    obtain ⟨_, f1, f2, f3, f4, f5⟩ := hf b hb
    have hbD : b < D := by rw [<- hDD]; exact hlt b hb
    refine ⟨hn b hb, ?_, ?_, .inl (by rw [exm]; exact hb), fun x d e => f4 x d (cellF x d e), fun p hp => ?_⟩
    · rw [lm]; exact Nat.ne_of_lt (Nat.lt_trans hbD hD0)
    · rw [fsm]
      intro hs
      rcases List.mem_cons.mp (I.stkSub b hs) with z | z
      · exact f1 z
      · exact f2 z
    · rw [nm, <- List.append_assoc] at hp
      rcases List.mem_append.mp hp with z | z
      · exact f5 p z
      · rw [List.mem_singleton.mp z]
        exact Nat.ne_of_gt hbD
  have pinD : ∀ {σ' : St} {H' : Hp} {s' : Shared} {its : List Value} {k : Nat}, Inv X' pins σ' H' s' -> s'.heap.get? D = some { cls := .type "list", data := .seq its.toArray k } -> H' D = none ->
      Inv X' (pins ++ [(D, { cls := .type "list", data := .seq its.toArray k })]) σ' H' s' := fun {σ' H' s' its k} J0 e n => J0.pins_of fun p hp => by
    rcases List.mem_append.mp hp with z | z
    · exact J0.pin p (List.mem_append_right _ z)
    · rw [List.mem_singleton.mp z]
      refine ⟨e, n, ?_, ?_, fun v q => by cases q⟩
      · show D ≠ X'.env.locals
        rw [lm]
        exact Nat.ne_of_lt hD0
      · rw [fsm]
        intro hs
        have hb := I.stkSub D hs
        rcases List.mem_cons.mp hb with z | z
        · have := I.lt
          rw [<- z, hDD] at this
          exact Nat.lt_irrefl _ this
        · exact I.nofs (Nat.le_of_eq hDD) z
  have loop : ∀ s0 : Shared, s0 = { s with heap := h1, toks := s.toks + ([] : List (Str × Value)).length } ->
      codeAny (model X.prog X.w) X.A (.compLoop (.ListComp elt [⟨tg, iter, ifs, 0⟩] scope pos) 0 (.ref it) (.ref D) X'.env) (RR (.ref D) C) s0 := by
    rintro s0 rfl
    obtain ⟨m0, w0⟩ := h0
    refine comp_loop (fun n s' => ∃ i ys σ' H' its k, Inv X' pins σ' H' s' /\ tn i s'.heap /\ (∀ b ∈ fp, H' b = none) /\ s'.heap.get? D = some { cls := .type "list", data := .seq (its : List Value).toArray k } /\ H' D = none /\ Vals ys its /\ W i n ys σ' H')
      ?_ m0 ⟨0, [], stComp fr σ, H, [], 0, I1, st1, fun b hb => (hf b hb).1, accD, I.hok.fresh (by rw [hDD]; exact Nat.le_refl _), .nil, w0⟩
    rintro n s1 ⟨i, ys, σ1, H1, its, k, J1, t1, n1, d1, nD1, v1, w1⟩
    have J1' := pinD J1 d1 nD1
    rcases hW i n ys σ1 H1 w1 with ⟨stop, hlen, fi⟩ | ⟨go, hlen, step⟩
    · have a1 := T.done X' pm wm km cm i _ s1 σ1 H1 (fun _ _ => False) J1' (fps n1) t1 stop
      rw [am] at a1
      refine thn a1 fun r s2 ⟨hr, J2⟩ => ?_
      subst hr
      obtain ⟨d2, nD2, _⟩ := J2.pin (D, _) (List.mem_append_right _ (List.mem_append_right _ List.mem_cons_self))
      have u2 : Un (frs X.stack) fp H H1 s.heap s2.heap := by
        have := J2.base
        subst hX'
        exact this
      have hok2 : HOk X.prog X.w (upd H1 D (.lst ys)) s2.heap := by
        have h2 := J2.hok
        rw [pm, wm] at h2
        exact h2.track nD1 ⟨hlen, its, k, v1, d2⟩
      have J3 : Inv X pins σ (upd H1 D (.lst ys)) s2 := by
        refine I.call' (ch := fp) (by have := J2.os; subst hX'; exact this) ⟨fun b o e n hb hx => u2.keep b o e n hb hx, fun b o e n hb hx => u2.slot b o e n hb hx, fun b o e n hx => ?_, fun b o e hx => u2.there b o e hx, fun b xs e => ?_, fun b o u e => ?_, fun b ps e => ?_⟩ hok2 J2.bare fun b hb => ?_
        · have ne : b ≠ D := Nat.ne_of_lt (by rw [<- hDD]; exact Heap.lt_size e)
          rw [upd_ne ne]
          exact u2.free b o e n hx
        · have q := u2.tups b xs e
          rw [upd_ne (ne_of_none q nD1)]
          exact q
        · have q := u2.frzs b o u e
          rw [upd_ne (ne_of_none q nD1)]
          exact q
        · obtain ⟨more, q⟩ := u2.tbls b ps e
          exact ⟨more, by rw [upd_ne (ne_of_none q nD1)]; exact q⟩
        · obtain ⟨_, f1, f2, f3, f4, f5⟩ := hf b hb
          exact ⟨f3, f1, f4, f5⟩
      have nC : (upd H1 D (.lst ys)) C = none := by
        rw [upd_ne (Nat.ne_of_gt hD0)]
        have := J2.free
        rw [lm] at this
        exact this
      refine hRR D C ys H1 s2 J3 ?_ (I.fpOk hle nC) nD1 fi
      obtain ⟨m, hm, _⟩ := J2.loc
      rw [lm] at hm
      exact ⟨m, hm⟩
    · have a1 := T.item X' pm wm km cm i _ s1 σ1 H1 (fun _ _ => False) J1' (fps n1) t1 go
      rw [am] at a1
      refine thn a1 fun r s2 ⟨u, hr, h2⟩ => ?_
      subst hr
      refine thn h2 fun _ s3 ⟨x, H3, J3, r3, y3, t3, n3⟩ => ?_
      have J3' := J3.pinned (fps n3) (T.obj _ _ t3)
      have a3 := hg' _ s3 σ1 H3 x u _ J3' r3 (step x H3 y3)
      rw [pm, wm, am, xm] at a3
      refine thn a3 fun _ s4 ⟨σ4, H4, J4, q4⟩ => ?_
      have a4 := ht' _ s4 σ4 H4 _ J4 q4
      rw [pm, wm, am, xm] at a4
      refine thn a4 fun ok s5 ⟨H5, J5, q5⟩ => ?_
      have keepT : ∀ {σ' : St} {H' : Hp} {s' : Shared}, Inv X' (pins ++ [(D, { cls := .type "list", data := .seq its.toArray k })] ++ pinsAt fp s3.heap) σ' H' s' -> tn (i + 1) s'.heap /\ (∀ b ∈ fp, H' b = none) /\ s'.heap.get? D = some { cls := .type "list", data := .seq its.toArray k } /\ H' D = none /\ Inv X' pins σ' H' s' := fun {σ' H' s'} J0 => by
        refine ⟨T.keep _ _ _ t3 fun b hb o e => (J0.pin (b, o) (List.mem_append_right _ (List.mem_append_right _ (mem_pinsAt hb e)))).1, fun b hb => ?_, ?_, ?_, J0.unpinned.unpinned⟩
        · obtain ⟨o, e, _⟩ := T.obj _ _ t3 b hb
          exact (J0.pin (b, o) (List.mem_append_right _ (List.mem_append_right _ (mem_pinsAt hb e)))).2.1
        · exact (J0.pin (D, _) (List.mem_append_right _ (List.mem_append_left _ (List.mem_append_right _ List.mem_cons_self)))).1
        · exact (J0.pin (D, { cls := .type "list", data := .seq its.toArray k }) (List.mem_append_right _ (List.mem_append_left _ (List.mem_append_right _ List.mem_cons_self)))).2.1
      cases ok with
      | false =>
        obtain ⟨m', hm, w'⟩ := q5
        obtain ⟨e1, e2, e3, e4, e5⟩ := keepT J5
        rw [if_neg Bool.false_ne_true]
        exact ⟨m', hm, i + 1, ys, σ4, H5, its, k, e5, e1, e2, e3, e4, v1, w'⟩
      | true =>
        rw [if_pos rfl]
        have a5 := he' _ s5 σ4 H5 _ J5 q5
        rw [pm, wm, am, xm] at a5
        refine thn a5 fun u6 s6 ⟨y, H6, J6, r6, m', hm, w6⟩ => ?_
        obtain ⟨e1, e2, e3, e4, e5⟩ := keepT J6
        refine append_at (hsz := by show its.toArray.size <= sizeLine; rw [List.size_toArray, <- v1.length]; exact Nat.le_of_lt hlen) e3 fun h7 sb7 d7 => ?_
        have J7 : Inv X' pins σ4 H6 { s6 with heap := h7 } := e5.turned (t' := s6.toks) (it := D) (fun b o hb e => sb7.extBut b o hb e) e4 (by rw [lm]; exact Nat.ne_of_lt hD0) (.inr (by rw [szm, hDD]; exact Nat.le_refl _)) (fun x d e => Nat.ne_of_lt (ageC x d e)) fun p hp => by
          rw [nm] at hp
          exact Nat.ne_of_lt (ageP p hp)
        refine ⟨m', hm, i + 1, ys ++ [y], σ4, H6, its ++ [u6], k + 1, J7, T.keep _ _ _ e1 fun b hb o e => sb7.extBut b o (Nat.ne_of_lt (by rw [<- hDD]; exact hlt b hb)) e, e2, ?_, e4, v1.append (.cons r6 .nil), w6⟩
        rw [d7, List.push_toArray]
  have env1 : ({ newEnv scope C X.env.globals (clOf X.env scope.names []) X.env.qual none .none (some X.env) 0 with scope := relabel scope X.env } : Env) = X'.env := by rw [em]; rfl
  have lp := loop _ rfl
  rw [em] at lp
  exact codeAny_compStart_list lp (T.self _ 0 _ _ _ st1 lp)
def tComp (wi : TI) (fr : List (Option Nat)) (g : TG) (tt : TT) (te : TE) : TE := fun σ H Q => wi σ H fun J H1 =>
  ∃ W, CompW J g tt te (fun ys H' => ∀ p, H' p = none -> Q (.ref p) (upd H' p (.lst ys))) W /\ ∃ m, W 0 m [] (stComp fr σ) H1
theorem pe_comp {wi : TI} (c : CompOk X scope N' fr) (hc : X.calm = true) (hi : PI X tg iter wi) (hg : ∀ fp C s H, PG (cxComp X scope N' fp C s H) tg g) (ht : ∀ fp C s H, PIfs (cxComp X scope N' fp C s H) ifs tt)
    (he : ∀ fp C s H, PE (cxComp X scope N' fp C s H) elt te) (hs : ∀ x, foldedSetIterable iter X.env x = pure x := by intro _; rfl) : PE X (.ListComp elt [⟨tg, iter, ifs, 0⟩] scope pos) (tComp wi fr g tt te) := by
  intro pins s σ H Q I h
  rw [eval_ListComp]
  refine wpAny_comprehension_free (use := none) rfl hs (closure_is (c.has I.ok)) c.kind c.names (thn (hi pins s σ H _ I h) fun v s1 h1 => thn h1 fun itv s2 h2 => ?_)
  obtain ⟨it, fp, tn, J, H2, e, I2, T, st2, f2, W, hW, h0⟩ := h2
  subst e
  refine comp_block c hc I2 T st2 f2 hg ht he hW h0 ?_
  rintro D C ys H' s' J3 ⟨m, hm⟩ ⟨f0, f1, _, f3, f4, f5⟩ nD fi
  exact ⟨m, hm, fun h'' sb => ⟨.ref D, _, J3.turned (t' := s'.toks) (it := C) (fun b o hb e => sb.extBut b o hb e) f0 f1 f3 f4 f5, rfl, fi D nD⟩⟩
def tSetComp (i : Nat) (wi : TI) (fr : List (Option Nat)) (g : TG) (tt : TT) (te : TE) : TS := fun D σ H => wi σ H fun J H1 =>
  ∃ W, CompW J g tt te (fun ys H' => ∀ p, H' p = none -> D.nx (σ.set i (some (.ref p))) (upd H' p (.lst ys))) W /\ ∃ m, W 0 m [] (stComp fr σ) H1
theorem ps_setComp {wi : TI} {i : Nat} {y : Str} {py spos : Pos} (hN : X.N.Nodup) (hi' : X.N[i]? = some y) (hy : Loc X.env.scope y) (c : CompOk X scope N' fr) (hc : X.calm = true) (hi : PI X tg iter wi) (hg : ∀ fp C s H, PG (cxComp X scope N' fp C s H) tg g) (ht : ∀ fp C s H, PIfs (cxComp X scope N' fp C s H) ifs tt)
    (he : ∀ fp C s H, PE (cxComp X scope N' fp C s H) elt te) (hs : ∀ x, foldedSetIterable iter X.env x = pure x := by intro _; rfl)
    (hsw : swapsWith (.ListComp elt [⟨tg, iter, ifs, 0⟩] scope pos) (some (.Name y py)) spos.line X.env = pure true := by rfl) (hf : X.fn y = true \/ X.env.scope.names.lookup y = some .local := by first | exact .inl rfl | exact .inr rfl | assumption) :
    PS X (.Assign [.Name y py] (.ListComp elt [⟨tg, iter, ifs, 0⟩] scope pos) spos) (tSetComp i wi fr g tt te) := by
  intro pins s σ H D I h
  rw [exec_Assign_Name_used _ _ _ _ hsw]
  refine wpAny_bind (wpAny_standAt (wpAny_bind ?_))
  show wpAny _ X.A (do let _ <- comprehension (.ListComp elt [⟨tg, iter, ifs, 0⟩] scope pos) scope X.env _ (newList []) false (eval iter X.env) (some (assign (.Name y py) X.env))) _ _ s
  refine wpAny_bind (thn (wpAny_comprehension_free (use := some (assign (.Name y py) X.env)) (Q := fun _ s' => SP X pins D .next s') rfl hs (closure_is (c.has I.ok)) c.kind c.names
    (thn (hi pins s σ H _ I h) fun v s1 h1 => thn h1 fun itv s2 h2 => ?_)) fun _ s' hq => wpAny_pure (wpAny_pure hq))
  obtain ⟨it, fp, tn, J, H2, e, I2, T, st2, f2, W, hW, h0⟩ := h2
  subst e
  refine comp_block c hc I2 T st2 f2 hg ht he hW h0 ?_
  rintro B C ys H' s' J3 ⟨m, hm⟩ ⟨f0, f1, _, f3, f4, f5⟩ nD fi
  show wpAny _ X.A (assign (.Name y py) X.env (.ref B)) _ _ s'
  refine wpAny_assign_Name (store_ok2 J3 hN hi' hy (show RelV (.ref B) (.ref B) from rfl) (fun s4 J4 ⟨a, sb, ha⟩ => ?_) hf)
  have nCa : C ≠ a := by
    rcases ha with z | z
    · rw [z]; exact f1
    · exact fun q => f4 y a z q.symm
  exact ⟨m, hm.sameBut sb nCa, fun h'' sb2 => ⟨_, _, J4.turned (t' := s4.toks) (it := C) (fun b o hb e => sb2.extBut b o hb e) f0 f1 f3 f4 f5, fi B nD⟩⟩
end
section
variable {X : Cx}
theorem call_isinst : CallR X (.builtin "isinstance") (fun xs H Q => ∃ x c t u b, xs = [x, c] /\ RelV c u /\ TyOf X.K H x t /\ PySem.W.kitOne X.K t u = some b /\ Q (.bl b) H) := by
  intro pins s σ H xs us Q I r h
  obtain ⟨x, c, t, u, b, rfl, rc, ty, e, q⟩ := h
  obtain ⟨u1, u2, rfl, r1, r2⟩ := Vals.two r
  have hu : u2 = u := by
    cases c <;> first
      | exact (show u2 = _ from r2).trans (show u = _ from rc).symm
      | skip
    all_goals (exfalso; obtain ⟨_, rfl⟩ := rc; unfold PySem.W.kitOne PySem.W.kitCls at e; split at e <;> first | (cases ty <;> simp_all) | (simp at e))
  subst hu
  exact isinst_ok I r1 ty e fun tk => ⟨.bl b, H, I.tok tk, rfl, q⟩
inductive SameD (K : PySem.W.Frag) (H : Hp) : Nat -> V -> V -> Prop
  | flat {n : Nat} {x : V} (f : flatV x = true) : SameD K H n x x
  | tup {n : Nat} {a b : Addr} {xs ys : List V} (ha : SqT K H a xs) (hb : SqT K H b ys) (hl : xs.length = ys.length) (h : ∀ (i : Nat) (x y : V), xs[i]? = some x -> ys[i]? = some y -> SameD K H n x y) : SameD K H (n + 1) (.ref a) (.ref b)
  | lst {n : Nat} {a b : Addr} {xs ys : List V} (ha : SqL K H a xs) (hb : SqL K H b ys) (hl : xs.length = ys.length) (h : ∀ (i : Nat) (x y : V), xs[i]? = some x -> ys[i]? = some y -> SameD K H n x y) : SameD K H (n + 1) (.ref a) (.ref b)
theorem eqV_self {x : V} (f : flatV x = true) : eqV x x = true := by
  cases x <;> first | (exact absurd (show false = true from f) Bool.false_ne_true) | rfl | (simp [eqV])
theorem range_all_true (n : Nat) (e : Nat -> Bool) (h : ∀ i, e i = true) : (List.range n).all e = true := by
  rw [List.all_eq_true]; intro i _; exact h i
theorem in1_units {A : Around} : A.in1.units <= A.units + 1 := by
  first
    | exact Nat.le_refl _
    | exact Nat.le_succ _
    | (simp [Around.in1])
theorem SameD.rc {pins : List (Addr × Obj)} {σ : St} {H : Hp} {s : Shared} (I : Inv X pins σ H s) {n : Nat} {x y : V} (h : SameD X.K H n x y) : ∀ (A : Around), A.units + n < cLine -> ∀ (u v : Value), RelV x u -> RelV y v -> SeqAt.EqAt A s u v true := by
  induction h with
  | flat f => intro A hu u v ru rv; have := eqAt_V (A := A) (s := s) ru rv f f; rw [eqV_self f] at this; exact this
  | @tup n a b xs ys ha hb hl _ ih =>
    intro A hu u v ru rv
    cases (show u = Value.ref a from ru)
    cases (show v = Value.ref b from rv)
    by_cases e : a = b
    · subst e; exact SeqAt.EqAt.same _
    · obtain ⟨its, r1, t1, _⟩ := I.tuple ha
      obtain ⟨its2, r2, t2, _⟩ := I.tuple hb
      have hz : its.toArray.size = its2.toArray.size := by simp [<- r1.length, <- r2.length, hl]
      refine SeqAt.EqAt.of_refs e ?_
      have q := SeqAt.RcAt.tuples (e := fun _ => true) (A := A) t1 t2 (by lia) (fun j h1 h2 => ?_)
      · rw [range_all_true _ _ (fun _ => rfl), hz] at q
        simpa using q
      · have l1 : j < xs.length := by have := r1.length; simp at h1; lia
        have l2 : j < ys.length := by lia
        obtain ⟨u1, e1, q1⟩ := r1.get (i := j) (x := xs[j]) (by simp [l1])
        obtain ⟨u2, e2, q2⟩ := r2.get (i := j) (x := ys[j]) (by simp [l2])
        have w1 : its.toArray[j] = u1 := by have := List.getElem?_eq_some_iff.mp e1; simpa using this.2
        have w2 : its2.toArray[j] = u2 := by have := List.getElem?_eq_some_iff.mp e2; simpa using this.2
        rw [w1, w2]
        exact ih j _ _ (by simp [l1]) (by simp [l2]) A.in1 (by have := @in1_units A; lia) _ _ q1 q2
  | @lst n a b xs ys ha hb hl _ ih =>
    intro A hu u v ru rv
    cases (show u = Value.ref a from ru)
    cases (show v = Value.ref b from rv)
    by_cases e : a = b
    · subst e; exact SeqAt.EqAt.same _
    · obtain ⟨its, r1, t1, _⟩ := I.list ha
      obtain ⟨its2, r2, t2, _⟩ := I.list hb
      have hz : its.toArray.size = its2.toArray.size := by simp [<- r1.length, <- r2.length, hl]
      refine SeqAt.EqAt.of_refs e ?_
      have q := SeqAt.RcAt.lists (e := fun _ => true) (A := A) t1.isList t2.isList hz (by lia) (fun j h1 h2 => ?_)
      · rw [range_all_true _ _ (fun _ => rfl)] at q
        exact q
      · have l1 : j < xs.length := by have := r1.length; simp at h1; lia
        have l2 : j < ys.length := by lia
        obtain ⟨u1, e1, q1⟩ := r1.get (i := j) (x := xs[j]) (by simp [l1])
        obtain ⟨u2, e2, q2⟩ := r2.get (i := j) (x := ys[j]) (by simp [l2])
        have w1 : its.toArray[j] = u1 := by have := List.getElem?_eq_some_iff.mp e1; simpa using this.2
        have w2 : its2.toArray[j] = u2 := by have := List.getElem?_eq_some_iff.mp e2; simpa using this.2
        rw [w1, w2]
        exact ih j _ _ (by simp [l1]) (by simp [l2]) A.in1 (by have := @in1_units A; lia) _ _ q1 q2
def rSame (K : PySem.W.Frag) (out : Bool) : R2 := fun x y H Q => ∃ a b xs ys n, x = .ref a /\ y = .ref b /\ ((SqT K H a xs /\ SqT K H b ys) \/ (SqL K H a xs /\ SqL K H b ys)) /\ xs.length = ys.length /\ n <= 64 /\
  (∀ (i : Nat) (x y : V), xs[i]? = some x -> ys[i]? = some y -> SameD K H n x y) /\ Q (.bl out) H
theorem same_items {pins : List (Addr × Obj)} {σ : St} {H : Hp} {s : Shared} (I : Inv X pins σ H s) {A : Around} {n : Nat} {xs ys : List V} {its its2 : List Value} (hu : A.units + n < cLine) (r1 : Vals xs its) (r2 : Vals ys its2) (hl : xs.length = ys.length)
    (h : ∀ (i : Nat) (x y : V), xs[i]? = some x -> ys[i]? = some y -> SameD X.K H n x y) : ∀ j (h1 : j < its.toArray.size) (h2 : j < its2.toArray.size), SeqAt.EqAt A s its.toArray[j] its2.toArray[j] true := by
  intro j h1 h2
  have l1 : j < xs.length := by have := r1.length; simp at h1; lia
  have l2 : j < ys.length := by lia
  obtain ⟨u1, e1, q1⟩ := r1.get (i := j) (x := xs[j]) (by simp [l1])
  obtain ⟨u2, e2, q2⟩ := r2.get (i := j) (x := ys[j]) (by simp [l2])
  have w1 : its.toArray[j] = u1 := by have := List.getElem?_eq_some_iff.mp e1; simpa using this.2
  have w2 : its2.toArray[j] = u2 := by have := List.getElem?_eq_some_iff.mp e2; simpa using this.2
  rw [w1, w2]
  exact (h j _ _ (by simp [l1]) (by simp [l2])).rc I A hu _ _ q1 q2
theorem op_eqS (hu : X.A.units + 66 < cLine) : OpR X (compareOp .Eq) (rSame X.K true) := by
  intro pins s σ H x y v u Q I rx ry h
  obtain ⟨a, b, xs, ys, n, rfl, rfl, hk, hl, hn, hs, q⟩ := h
  cases (show v = Value.ref a from rx)
  cases (show u = Value.ref b from ry)
  have hu1 : X.A.in1.units + n < cLine := by have := @in1_units X.A; lia
  rcases hk with ⟨ha, hb⟩ | ⟨ha, hb⟩
  · obtain ⟨its, r1, t1, _⟩ := I.tuple ha
    obtain ⟨its2, r2, t2, _⟩ := I.tuple hb
    have hz : its.toArray.size = its2.toArray.size := by simp [<- r1.length, <- r2.length, hl]
    refine SeqAt.eq_tupleAt (e := fun _ => true) t1 t2 (by lia) (same_items I hu1 r1 r2 hl hs) ?_
    rw [range_all_true _ _ (fun _ => rfl), hz]
    exact ⟨.bl true, H, I, by simp [RelV], q⟩
  · obtain ⟨its, r1, t1, _⟩ := I.list ha
    obtain ⟨its2, r2, t2, _⟩ := I.list hb
    have hz : its.toArray.size = its2.toArray.size := by simp [<- r1.length, <- r2.length, hl]
    refine SeqAt.eq_listAt (e := fun _ => true) t1.isList t2.isList hz (by lia) (same_items I hu1 r1 r2 hl hs) ?_
    rw [range_all_true _ _ (fun _ => rfl)]
    exact ⟨.bl true, H, I, rfl, q⟩
theorem op_neS (hu : X.A.units + 66 < cLine) : OpR X (compareOp .NotEq) (rSame X.K false) := by
  intro pins s σ H x y v u Q I rx ry h
  obtain ⟨a, b, xs, ys, n, rfl, rfl, hk, hl, hn, hs, q⟩ := h
  cases (show v = Value.ref a from rx)
  cases (show u = Value.ref b from ry)
  have hu1 : X.A.in1.units + n < cLine := by have := @in1_units X.A; lia
  rcases hk with ⟨ha, hb⟩ | ⟨ha, hb⟩
  · obtain ⟨its, r1, t1, _⟩ := I.tuple ha
    obtain ⟨its2, r2, t2, _⟩ := I.tuple hb
    have hz : its.toArray.size = its2.toArray.size := by simp [<- r1.length, <- r2.length, hl]
    refine EqBoolInt.of_rcne (SeqAt.RcNeAt.tuples (e := fun _ => true) t1 t2 (by lia) (same_items I hu1 r1 r2 hl hs)) ?_
    rw [range_all_true _ _ (fun _ => rfl), hz]
    exact ⟨.bl false, H, I, by simp [RelV], q⟩
  · obtain ⟨its, r1, t1, _⟩ := I.list ha
    obtain ⟨its2, r2, t2, _⟩ := I.list hb
    have hz : its.toArray.size = its2.toArray.size := by simp [<- r1.length, <- r2.length, hl]
    refine EqBoolInt.of_rcne (SeqAt.RcNeAt.lists (e := fun _ => true) t1.isList t2.isList hz (by lia) (same_items I hu1 r1 r2 hl hs)) ?_
    rw [range_all_true _ _ (fun _ => rfl)]
    exact ⟨.bl false, H, I, rfl, q⟩
def rNil (K : PySem.W.Frag) (neg : Bool) : R2 := fun x y H Q => ∃ a b xs, x = .ref a /\ y = .ref b /\ SqL K H a xs /\ SqL K H b [] /\ Q (.bl (neg ^^ decide (xs = []))) H
theorem op_neNil (hu : X.A.units + 66 < cLine) : OpR X (compareOp .NotEq) (rNil X.K true) := by
  intro pins s σ H x y v u Q I rx ry h
  obtain ⟨a, b, xs, rfl, rfl, ha, hb, q⟩ := h
  cases (show v = Value.ref a from rx)
  cases (show u = Value.ref b from ry)
  obtain ⟨its, r1, t1, _⟩ := I.list ha
  obtain ⟨its2, r2, t2, _⟩ := I.list hb
  have z2 : its2 = [] := Vals.zero r2
  subst z2
  cases xs with
  | nil =>
    have z1 : its = [] := Vals.zero r1
    subst z1
    exact EqBoolInt.of_rcne (SeqAt.RcNeAt.lists (e := fun _ => true) t1.isList t2.isList rfl (by lia) (fun j h1 _ => absurd h1 (by simp))) ⟨.bl false, H, I, by simp [RelV], by simpa using q⟩
  | cons x xs =>
    have hl := r1.length
    exact EqBoolInt.of_rcne (SeqAt.RcNeAt.lists_lengths t1.isList t2.isList (by simp [<- hl]) (by lia)) ⟨.bl true, H, I, rfl, by simpa using q⟩
theorem kept_iter {h h' : Heap} {o : Obj} (hk : ∀ b u, b ∉ [h.objs.size] -> (h.push o).get? b = some u -> h'.get? b = some u) : ∀ b u, h.get? b = some u -> h'.get? b = some u := fun b u e =>
  hk b u (fun hm => absurd (Heap.lt_size e) (by rw [List.mem_singleton.mp hm]; exact Nat.lt_irrefl _)) (Heap.get?_push_of_some _ e)
theorem bools_at {bs : List Bool} {its : List Value} (r : Vals (bs.map V.bl) its) {i : Nat} {v : Value} (e : its.toArray[i]? = some v) : v = .bool (bs.getD i false) := by
  have e' : its[i]? = some v := by simpa using e
  have hl : i < its.length := (List.getElem?_eq_some_iff.mp e').1
  have hb : i < bs.length := by have := r.length; rw [List.length_map] at this; lia
  obtain ⟨u, e1, q⟩ := r.get (i := i) (x := V.bl bs[i]) (by simp [hb])
  rw [e1] at e'
  cases e'
  have e3 : v = Value.bool bs[i] := q
  rw [e3]
  simp [List.getD, hb]
theorem range_all_get (bs : List Bool) : (List.range bs.length).all (fun i => bs.getD i false) = bs.all id := by
  rw [Bool.eq_iff_iff, List.all_eq_true, List.all_eq_true]
  constructor
  · intro h x hx
    obtain ⟨i, hi, e⟩ := List.mem_iff_getElem.mp hx
    have := h i (List.mem_range.mpr hi)
    simp [List.getD, hi, e] at this
    exact this
  · intro h i hi
    have hi' := List.mem_range.mp hi
    have := h bs[i] (List.getElem_mem hi')
    simpa [List.getD, hi'] using this
theorem call_all (hc : X.calm = true) : CallR X (.builtin "all") (fun xs H Q => ∃ (p : Addr) (bs : List Bool), xs = [.ref p] /\ SqL X.K H p (bs.map V.bl) /\ Q (.bl (bs.all id)) H) := by
  intro pins s σ H xs us Q I r h
  obtain ⟨p, bs, rfl, hp, q⟩ := h
  obtain ⟨u, rfl, ru⟩ := Vals.one r
  cases (show u = Value.ref p from ru)
  obtain ⟨its, r1, t1, _⟩ := I.list hp
  have hh : X.A.in1.handled = none := I.ok.hd hc
  have hlt : p < s.heap.objs.size := by obtain ⟨_, e, _⟩ := t1.isList; exact Heap.lt_size e
  refine call_all_walk (wpAny_pyIter_list t1.isList ⟨_, _, _, _, _, _, fun i => bs.getD i false, rfl, Walks.list hh _ p (Nat.ne_of_lt hlt) its.toArray, ⟨⟨_, Heap.get?_push_size _ rfl, rfl, rfl⟩, t1.isList.push _⟩, ?_, ?_⟩)
  · intro i v s' Q' E' e hq
    rw [bools_at r1 e]
    exact wpAny_truthy_bool hq
  · intro h' tk hk
    have hl : its.toArray.size = bs.length := by have := r1.length; simp at this ⊢; lia
    rw [hl, range_all_get]
    exact ⟨.bl _, H, I.kept (kept_iter hk), rfl, q⟩
end
section
variable {X : Cx} {pins : List (Addr × Obj)} {σ : St} {H : Hp} {s : Shared}
end
inductive Kd | l | t
def ItAt (k : Kd) (h : Heap) (it a : Addr) (i : Nat) : Prop := match k with | .l => h.IsListIter it a i | .t => h.IsTupleIter it a i
def SqK (k : Kd) (K : PySem.W.Frag) (H : Hp) (a : Addr) (xs : List V) : Prop := match k with | .l => SqL K H a xs | .t => SqT K H a xs
section
variable {prog : Program} {w : World} {A : Around} {E : Value -> Shared -> Prop} {s : Shared}
end
open AutoSeq1 (wpAny_loadPart')
section
variable {prog : Program} {w : World} {A : Around} {E : Value -> Shared -> Prop} {s : Shared}
end
open AutoSeq1 (wpAny_loadPart')
section
variable {prog : Program} {w : World} {A : Around} {E : Value -> Shared -> Prop} {s : Shared}
end
structure Src (K : PySem.W.Frag) (mg : Str -> Option Value) (x : Str) (st : Stmt) (ps : List Str) : Prop where
  ex : ∃ f fd, Fun K x x st f fd /\ Binds K fd ps [] /\ mg x = some (.ref f)
structure Def (P : Program) (w : World) (K : PySem.W.Frag) (mg : Str -> Option Value) (base : Heap) (k : Nat) (x : Str) (ps : List Str) (sp : Sp) : Prop where
  ex : ∃ f fd, FnOk P w K mg base CX0 k f fd ps sp /\ Binds K fd ps [] /\ mg x = some (.ref f) /\ PySem.W.keepIn K (.ref f) = true
theorem Src.def {P : Program} {w : World} {K : PySem.W.Frag} {mg : Str -> Option Value} {base : Heap} {k : Nat} {x : Str} {st : Stmt} {N ps : List Str} {sp : Sp} (S : Src K mg x st ps) (sc : FnScope N ps (defScope st)) (len : ∀ vs H Q E, sp vs H Q E -> vs.length = ps.length)
    (hbody : ∀ (f : Addr) (cdv : Value) (A : Around) (outer : List Env) (s : Shared) (H : Hp) (vs : List V) (Q : VK) (E : XK), Room k (A.deeper (envOfC x (defScope st) s.heap.objs.size f cdv)) -> sp vs H Q E ->
      ∃ t, PSs (cxOf CX0 P w K mg base N x (defScope st) f cdv A outer s H E).nox (defBody st) t /\ t { nx := fun _ H' => Q .non H', rt := Q } (start N vs) H) : Def P w K mg base (k + 1) x ps sp := by
  obtain ⟨f, fd, F, b, m⟩ := S.ex
  exact ⟨f, fd, F.ok sc len (hbody f), b, m, F.kp⟩
theorem pe_def {X : Cx} {k : Nat} {x : Str} {ps : List Str} {sp : Sp} {e : Expr} {es : List Expr} {t : TA} {p pos : Pos} (D : Def X.prog X.w X.K X.mg X.base k x ps sp) (hr : Room k X.A) (hg : Gl X x) (ha : PA X (e :: es) t)
    (hdb : (x == ("__debug__" : Str)) = false := by decide) (he : starEach (e :: es) X.env = (false, eval e X.env) :: starEach es X.env := by rfl) (hpl : (backTo pos (starEach es X.env)).any (·.1) = false := by rfl) :
    PE X (.Call (.Name x p) (e :: es) [] pos) (tCall sp [] E0 t) := by
  obtain ⟨f, fd, F, b, m, kp⟩ := D.ex
  exact pe_call F hr hg m kp b .nil pass0 ha hdb he hpl
theorem Same.tup {K : PySem.W.Frag} {H H' : Hp} {a : Addr} {xs : List V} (e : Same H H') (h : SqT K H a xs) : SqT K H' a xs := by
  rcases h with (h | ⟨o, h⟩) | h
  · exact .inl (.inl (e _ _ h))
  · exact .inl (.inr ⟨o, e _ _ h⟩)
  · exact .inr h
theorem Same.seqK {K : PySem.W.Frag} {H H' : Hp} {k : Kd} {a : Addr} {xs : List V} (e : Same H H') (h : SqK k K H a xs) : SqK k K H' a xs := by
  cases k with
  | l => exact e.seq h
  | t => exact e.tup h
theorem Same.new {H : Hp} {p : Addr} {o : HO} (h : H p = none) : Same H (upd H p o) := fun b u e => by rw [upd_ne (ne_of_none e h)]; exact e
theorem Paired.at {α β : Type} {F : α -> β -> Prop} : ∀ {l₁ : List α} {l₂ : List β}, Paired F l₁ l₂ -> ∀ {i : Nat} {a : α}, l₁[i]? = some a -> ∃ b, l₂[i]? = some b /\ F a b
  | _, _, .nil, i, a, e => by simp at e
  | _, _, .cons r t, 0, a, e => by simp at e; subst e; exact ⟨_, rfl, r⟩
  | _, _, .cons r t, i + 1, a, e => by
    obtain ⟨b, h1, h2⟩ := Paired.at t (i := i) (by simpa using e)
    exact ⟨b, by simpa using h1, h2⟩
theorem Paired.snoc {α β : Type} {F : α -> β -> Prop} : ∀ {l₁ : List α} {l₂ : List β}, Paired F l₁ l₂ -> ∀ {a : α} {b : β}, F a b -> Paired F (l₁ ++ [a]) (l₂ ++ [b])
  | _, _, .nil, _, _, h => .cons h .nil
  | _, _, .cons r t, _, _, h => .cons r (Paired.snoc t h)
theorem Paired.take {α β : Type} {F : α -> β -> Prop} : ∀ (n : Nat) {l₁ : List α} {l₂ : List β}, Paired F l₁ l₂ -> Paired F (l₁.take n) (l₂.take n)
  | 0, _, _, _ => .nil
  | _ + 1, _, _, .nil => .nil
  | n + 1, _, _, .cons r t => .cons r (Paired.take n t)
theorem take_succ_of {α : Type} {l : List α} {i : Nat} {a : α} (h : l[i]? = some a) : l.take (i + 1) = l.take i ++ [a] := by
  rw [List.take_add_one, h]; rfl
def ItK (k : Kd) (K : PySem.W.Frag) (a : Addr) : It := match k with | .l => Itl K a | .t => Itt K a
def iSeq (k : Kd) (K : PySem.W.Frag) (tl : TE) : TI := fun σ H R => tl σ H fun x H1 => ∃ a, x = .ref a /\ (∃ xs, SqK k K H1 a xs) /\ R (ItK k K a) H1
theorem pi_seq {X : Cx} {tg : Expr} (k : Kd) {l : Expr} {tl : TE} (hl : PE X l tl) : PI X tg l (iSeq k X.K tl) := by
  cases k with
  | l => exact pi_list hl
  | t => exact pi_tup hl
theorem itk_go {k : Kd} {K : PySem.W.Frag} {H : Hp} {a : Addr} {xs : List V} {i : Nat} (h : SqK k K H a xs) (hi : i < xs.length) : (ItK k K a).go i H := by
  cases k with
  | l => exact ⟨xs, xs[i], h, by simp [hi]⟩
  | t => exact ⟨xs, xs[i], h, by simp [hi]⟩
theorem itk_stop {k : Kd} {K : PySem.W.Frag} {H : Hp} {a : Addr} {xs : List V} {i : Nat} (h : SqK k K H a xs) (hi : xs.length <= i) : (ItK k K a).stop i H := by
  cases k with
  | l => exact ⟨xs, h, hi⟩
  | t => exact ⟨xs, h, hi⟩
theorem itk_yld {k : Kd} {K : PySem.W.Frag} {H H' : Hp} {a : Addr} {xs : List V} {i : Nat} {x : V} (h : SqK k K H a xs) (y : (ItK k K a).yld i H x H') : H' = H /\ xs[i]? = some x := by
  cases k with
  | l => exact ⟨y.1, y.2 xs h⟩
  | t => exact ⟨y.1, y.2 xs h⟩
theorem comp_seq {k : Kd} {K : PySem.W.Frag} {a : Addr} {xs : List V} {g : TG} {tt : TT} {te : TE} {fin : List V -> Hp -> Prop} {σ : St} {H : Hp} (S : St -> Prop) (Pv : Nat -> List V -> Hp -> Prop) (hσ : S σ) (h0 : Pv 0 [] H) (hz : xs.length < sizeLine)
    (hl : ∀ i ys H, i <= xs.length -> Pv i ys H -> SqK k K H a xs)
    (hs : ∀ (i : Nat) (x : V) (ys : List V) (σ : St) (H : Hp) (N : List V -> St -> Hp -> Prop), xs[i]? = some x -> S σ -> Pv i ys H -> (∀ ys' σ' H', S σ' -> Pv (i + 1) ys' H' -> ys'.length <= ys.length + 1 -> N ys' σ' H') ->
      g x σ H fun σ2 H2 => tt σ2 H2 fun b H3 => if b = true then te σ2 H3 fun y H4 => N (ys ++ [y]) σ2 H4 else N ys σ2 H3)
    (hd : ∀ ys H, Pv xs.length ys H -> fin ys H) : ∃ W, CompW (ItK k K a) g tt te fin W /\ ∃ m, W 0 m [] σ H := by
  refine ⟨fun i m ys σ H => m = xs.length - i /\ i <= xs.length /\ ys.length <= i /\ S σ /\ Pv i ys H, ?_, xs.length, by simp, Nat.zero_le _, Nat.le_refl _, hσ, h0⟩
  rintro i m ys σ H ⟨rfl, hi, hy, hS, p⟩
  have q := hl i ys H hi p
  by_cases hlt : i < xs.length
  · refine .inr ⟨itk_go q hlt, by lia, fun x H' y => ?_⟩
    obtain ⟨e, hy2⟩ := itk_yld q y
    subst e
    have := hs i x ys σ H' (fun ys' σ' H'' => ∃ m', m' < xs.length - i /\ m' = xs.length - (i + 1) /\ i + 1 <= xs.length /\ ys'.length <= i + 1 /\ S σ' /\ Pv (i + 1) ys' H'') hy2 hS p (fun ys' σ' H'' a b c => ⟨_, by lia, rfl, hlt, by lia, a, b⟩)
    exact this
  · have e : i = xs.length := by lia
    subst e
    exact .inl ⟨itk_stop q (Nat.le_refl _), by lia, hd ys H p⟩
theorem units66 {A : Around} {k : Nat} (hr : Room k A) : A.units + 66 < cLine := by have := hr.un; lia
def compB (kinds : List (Str × NameKind)) (N : List Str) (scope : Scope) (N' : List Str) (fr : List (Option Nat)) : Bool :=
  (scope.kind == .function) && (scope.names.all fun y => y.2 != .cell) && (scope.names.all fun y => y.2 != .local || scope.names.lookup y.1 == some .local) &&
  (scope.names.all fun y => y.2 != .free || (kinds.lookup y.1 == some .cell || kinds.lookup y.1 == some .free)) && frOk N kinds scope.names N' fr
theorem compOk_of {X : Cx} {scope : Scope} {N' : List Str} {fr : List (Option Nat)} (h : compB X.env.scope.names X.N scope N' fr = true) : CompOk X scope N' fr := by
  unfold compB at h
  simp only [Bool.and_eq_true, List.all_eq_true] at h
  obtain ⟨⟨⟨⟨h1, h2⟩, h3⟩, h4⟩, h5⟩ := h
  refine ⟨by simpa using h1, fun y hy => by simpa using h2 y hy, fun y hy e => ?_, fun y hy e => ?_, h5⟩
  · have := h3 y hy
    rw [e] at this
    simpa using this
  · have := h4 y hy
    rw [e] at this
    simpa [Env.kindOf] using this
theorem yesT {σ : St} {H : Hp} {A B : Hp -> Prop} (h : A H) : tYes σ H fun b H3 => if b = true then A H3 else B H3 := by
  show if true = true then A H else B H
  exact iteT h
section
open PySem.SeqAt
open PySem.AutoSeq1 (wpAny_loadPart')
open PySem.MeetsSeq PySem.MeetsSeq2 PySem.MeetsSeq3
end
section
variable {X : Cx}
def rCat0 (K : PySem.W.Frag) : R2 := fun x y H Q => ∃ a b ys, x = .ref a /\ y = .ref b /\ SqT K H a [] /\ SqT K H b ys /\ Q (.ref b) H
theorem op_cat0 : OpR X (binaryOp .Add) (rCat0 X.K) := by
  intro pins s σ H x y v u Q I rx ry h
  obtain ⟨a, b, ys, rfl, rfl, ha, hb, k⟩ := h
  cases (show v = Value.ref a from rx)
  cases (show u = Value.ref b from ry)
  obtain ⟨its, r1, t1, _⟩ := I.tuple ha
  obtain ⟨its2, r2, t2, _⟩ := I.tuple hb
  rw [Vals.zero r1] at t1
  obtain ⟨⟨cls, dd, data, sl⟩, ho, hc, n, hd⟩ := id t1
  obtain ⟨⟨cls2, dd2, data2, sl2⟩, ho2, hc2, n2, hd2⟩ := id t2
  simp only at hc hd hc2 hd2
  subst hc hd hc2 hd2
  exact concat_meets ⟨_, ho, rfl⟩ ⟨_, ho2, rfl⟩ noFill_tuple_add seq_tuple_add PySem.F.slot_tuple_add PySem.F.entry_tuple_add (PySem.F.args_tuple_add_2 _ _) (tuple_addW0 a b _ its2.toArray n n2 dd dd2 sl sl2 (by simp)) ⟨ho, ho2, ⟨.ref b, H, I, rfl, k⟩⟩
end
theorem comp_range {lo : Int} {n : Nat} {g : TG} {tt : TT} {te : TE} {fin : List V -> Hp -> Prop} {σ : St} {H : Hp} (S : St -> Prop) (Pv : Nat -> List V -> Hp -> Prop) (hσ : S σ) (h0 : Pv 0 [] H) (hz : n < sizeLine)
    (hs : ∀ (i : Nat) (ys : List V) (σ : St) (H : Hp) (N : List V -> St -> Hp -> Prop), i < n -> S σ -> Pv i ys H -> (∀ ys' σ' H', S σ' -> Pv (i + 1) ys' H' -> ys'.length <= ys.length + 1 -> N ys' σ' H') ->
      g (.int (lo + i)) σ H fun σ2 H2 => tt σ2 H2 fun b H3 => if b = true then te σ2 H3 fun y H4 => N (ys ++ [y]) σ2 H4 else N ys σ2 H3)
    (hd : ∀ ys H, Pv n ys H -> fin ys H) : ∃ W, CompW (Itr lo n) g tt te fin W /\ ∃ m, W 0 m [] σ H := by
  refine ⟨fun i m ys σ H => m = n - i /\ i <= n /\ ys.length <= i /\ S σ /\ Pv i ys H, ?_, n, by simp, Nat.zero_le _, Nat.le_refl _, hσ, h0⟩
  rintro i m ys σ H ⟨rfl, hi, hy, hS, p⟩
  by_cases hlt : i < n
  · refine .inr ⟨hlt, by omega, fun x H' y => ?_⟩
    obtain ⟨e, y⟩ := y
    subst e y
    exact hs i ys σ _ (fun ys' σ' H'' => ∃ m', m' < n - i /\ m' = n - (i + 1) /\ i + 1 <= n /\ ys'.length <= i + 1 /\ S σ' /\ Pv (i + 1) ys' H'') hlt hS p (fun ys' σ' H'' a b c => ⟨_, by omega, rfl, hlt, by omega, a, b⟩)
  · have e : i = n := by omega
    subst e
    exact .inl ⟨Nat.le_refl _, by omega, hd ys H p⟩
section
variable {X : Cx}
end
def CXr (P : Program) (w : World) : CXT := fun outer H s E e s' => ∃ (ea C : Addr) (a0 : Value) (B : Heap) (H' : Hp), e = .ref ea /\ s'.os = s.os /\ AllBare s'.gens /\ Un (frs outer) [] H H' s.heap s'.heap /\ HOk P w H' s'.heap /\
  Heap.FlyingW B outer ea (.ref C) a0 s'.heap /\ (∀ b o, s'.heap.get? b = some o -> ((∃ q, s.heap.get? b = some q) \/ ∃ q, H' b = some q) -> b ∉ frs outer -> B.get? b = some o) /\ E (.ref C) none H'
section
variable {P : Program} {w : World} {K : PySem.W.Frag} {mg : Str -> Option Value} {base : Heap} {N : List Str} {qual : Str} {scope : Scope} {f : Addr} {cd : Value} {A : Around} {outer : List Env} {s0 : Shared} {H0 : Hp} {E : XK}
end
section
variable {P : Program} {w : World} {K : PySem.W.Frag} {mg : Str -> Option Value} {base : Heap} {N : List Str} {qual : Str} {scope : Scope} {f : Addr} {cd : Value} {A : Around} {outer : List Env} {s0 : Shared} {H0 : Hp} {E : XK}
end
end L2
namespace L2
open PySem PySem.Spec PyProof.Rows PySem.W
section
variable {K : Frag} {prog : Program} {w : World} {A : Around} {E : Value -> Shared -> Prop} {h : Heap} {g : Array GenState} {d : Drawn} {t : Nat} {os : OsState} {a C : Addr} {o : Obj}
end
section
variable {X : Cx}
end
end L2
namespace L2
open PySem PySem.Spec PyProof.Rows PySem.W
section
variable {X : Cx} {pins : List (Addr × Obj)} {σ : St} {H H' : Hp} {s s' : Shared}
end
section
variable {X : Cx} {pins : List (Addr × Obj)} {σ : St} {H H' : Hp} {s s' : Shared} {v : Value}
end
theorem passX {P : Program} {w : World} {X : Cx} : Passes (CXr P w) X E0 := fun _ _ _ _ _ _ _ ⟨_, _, _, _, _, _, _, _, _, _, _, _, z⟩ => z.elim
end L2
namespace L2
open PySem PySem.Spec PyProof.Rows
open PySem.AutoSeq1 (wpAny_loadPart')
section
variable {prog : Program} {w : World} {A : Around} {E : Value -> Shared -> Prop} {s : Shared}
theorem code_collect_range {R : Result -> Shared -> Prop} {r : Addr} {a b c : Int} {t u v : Tok} {n : Nat} (hh : A.handled = none) (hr : IsRange s.heap r a b c t u v) (hsm : Builtin.Range.small a b c = true) (hn : Builtin.Range.rangeSize a b c = n) (hl : n <= 2 ^ 24)
    (hR : ∀ h' tk acc c', (∀ b o, s.heap.get? b = some o -> h'.get? b = some o) -> h'.get? s.heap.objs.size = some { cls := .type "list", dict := none, data := .seq acc c', slots := #[] } -> ItemsOf (fun i v => ∃ t, v = .int (a + i * c) t) acc n ->
      R (.ok (.ret (.ref s.heap.objs.size))) { s with heap := h', toks := tk }) : codeAny (model prog w) A (.builtin "proto.collect" ⟨[.ref r], []⟩) R s := by
  refine codeAny_builtin PySem.F.entry_proto_collect ?_
  rw [Around.under_plainId PySem.F.plain_proto_collect _]
  show wpAny _ A.in1 (newList [] >>= fun l => again (.builtin "list.__iadd__" ⟨[l, .ref r], []⟩)) _ _ s
  refine wpAny_bind (wpAny_newObj_type ?_)
  refine wpAny_pure ⟨plainId_quiet PySem.F.plain_list_iadd _, codeAny_builtin PySem.F.entry_list_iadd ?_⟩
  rw [Around.under_plainId PySem.F.plain_list_iadd _]
  show wpAny _ A.in1 (Builtin.List.listExtendWith (.ref s.heap.objs.size) (.ref r) (.ref s.heap.objs.size)) _ _ _
  exact wpAny_extend_range (R := R) (s := { s with heap := s.heap.push { cls := .type "list", data := .seq ([] : List Value).toArray } }) hh (Heap.get?_push_of_some _ hr) hsm hn hl s.heap.objs.size (.ref s.heap.objs.size) 0 (Heap.get?_push_size _ rfl) fun h' tk acc c' hk hS hacc =>
    hR h' tk acc c' (fun b o e => hk b o (Nat.ne_of_lt (Heap.lt_size e)) (Heap.get?_push_of_some _ e)) hS hacc
theorem collect_range {Q : List Value -> Shared -> Prop} {r : Addr} {a b c : Int} {t u v : Tok} {n : Nat} (hh : A.handled = none) (hr : IsRange s.heap r a b c t u v) (hsm : Builtin.Range.small a b c = true) (hn : Builtin.Range.rangeSize a b c = n) (hl : n <= 2 ^ 24)
    (hQ : ∀ h' tk acc, (∀ b o, s.heap.get? b = some o -> h'.get? b = some o) -> s.heap.objs.size < h'.objs.size -> ItemsOf (fun i v => ∃ t, v = .int (a + i * c) t) acc n -> Q acc.toList { s with heap := h', toks := tk }) : wpAny (model prog w) A (collect (.ref r)) Q E s := by
  unfold collect
  refine wpAny_bind (wpAny_runValue (code_collect_range hh hr hsm hn hl fun h' tk acc c' hk hS hacc => ?_))
  show wpAny _ A (load s.heap.objs.size >>= _) _ _ _
  refine wpAny_bind (wpAny_load hS ?_)
  exact wpAny_pure (hQ h' tk acc hk (Heap.lt_size hS) hacc)
end
theorem new_tuple_range (r : Addr) (a b c : Int) (t u v : Tok) (n : Nat) (hsm : Builtin.Range.small a b c = true) (hn : Builtin.Range.rangeSize a b c = n) (hl : n <= 2 ^ 24) :
    Meets (Builtin.«tuple.__new__» ⟨[.type "tuple", .ref r], []⟩)
      (fun A R s => (A.handled = none /\ IsRange s.heap r a b c t u v) /\ ∀ (h' : Heap) (tk : Nat) (acc : Array Value), (∀ b o, s.heap.get? b = some o -> h'.get? b = some o) -> s.heap.objs.size < h'.objs.size -> ItemsOf (fun i v => ∃ t, v = .int (a + i * c) t) acc n ->
        R (.ok (.ret (.ref h'.objs.size))) { s with heap := h'.push { cls := .type "tuple", data := .seq acc }, toks := tk }) :=
  .of_wp fun prog w A R s h => by
    obtain ⟨⟨hh, hr⟩, h⟩ := h
    have hsub := sub_tuple_self
    have hinit := init_tuple_lookup
    have hmh := madeHere_tuple
    have hT : s.TypeIs (.ref r) "range" := ⟨_, hr, rfl⟩
    have hh1 : A.in1.handled = none := hh
    wp_walk using wpAny_typeOf hT, collect_range hh1 hr hsm hn hl
    intro h' tk acc hk hz hacc
    show wpAny _ _ (Builtin.Tuple.tupleExact acc.toList.toArray >>= fun v => ret v) _ _ _
    unfold Builtin.Tuple.tupleExact
    refine wpAny_bind (wpAny_newObj_type ?_ (show acc.toList.toArray.size <= sizeLine by simp only [Array.toArray_toList]; rw [hacc.1, sizeLine_eq]; omega))
    refine wpAny_pure ⟨_, rfl, ?_⟩
    have e : acc.toList.toArray = acc := by simp
    rw [e]
    exact h h' tk acc hk hz hacc
def upN (n : Nat) : List V := (List.range n).map fun (i : Nat) => V.int i
theorem items_up {acc : Array Value} {n : Nat} (h : ItemsOf (fun i v => ∃ t, v = .int (0 + (i : Int) * 1) t) acc n) : Vals (upN n) acc.toList := by
  obtain ⟨hz, hi⟩ := h
  have key : ∀ (l : List Value) (k : Nat), (∀ (j : Nat) (v : Value), l[j]? = some v -> ∃ t, v = Value.int ((k + j : Nat) : Int) t) -> Vals ((List.range' k l.length).map fun (i : Nat) => V.int i) l := by
    intro l
    induction l with
    | nil => intro k _; exact .nil
    | cons a r ih =>
      intro k hk
      obtain ⟨t, e⟩ := hk 0 a rfl
      refine .cons ⟨t, by simpa using e⟩ (ih (k + 1) fun j v e => ?_)
      obtain ⟨t', e'⟩ := hk (j + 1) v (by simpa using e)
      exact ⟨t', by rw [e']; congr 2; omega⟩
  have := key acc.toList 0 fun j v e => by
    obtain ⟨t, e'⟩ := hi j v (by simpa using e)
    exact ⟨t, by rw [e']; congr 1; simp⟩
  have el : acc.toList.length = n := by simpa using hz
  rw [el] at this
  unfold upN
  rw [List.range_eq_range']
  exact this
section
variable {X : Cx}
theorem call_range1 : CallR X (.type "range") (fun xs H Q => ∃ j : Int, xs = [.int j] /\ ∀ p, H p = none -> Q (.ref p) (upd H p (.rng 0 j))) := by
  intro pins s σ H xs us Q I r h
  obtain ⟨j, rfl, q⟩ := h
  obtain ⟨u, rfl, ru⟩ := Vals.one r
  obtain ⟨t, rfl⟩ := ru
  refine call_range_1 ⟨.ref s.heap.objs.size, upd H s.heap.objs.size (.rng 0 j), I.laid (fun b o e => Heap.get?_push_of_some _ e) (Nat.le_refl _) ?_, rfl, q _ (I.hok.fresh (Nat.le_refl _))⟩
  exact ⟨_, _, _, Heap.get?_push_size _ rfl⟩
theorem size1 (n : Nat) : Builtin.Range.rangeSize 0 (n : Int) 1 = (n : Int) := by rw [rangeSize_one]; split <;> omega
theorem call_list_rng (hc : X.calm = true) : CallR X (.type "list") (fun xs H Q => ∃ (p : Addr) (n : Nat), xs = [.ref p] /\ H p = some (.rng 0 n) /\ n <= 1000 /\ ∀ l, H l = none -> Q (.ref l) (upd H l (.lst (upN n)))) := by
  intro pins s σ H xs us Q I r h
  obtain ⟨p, n, rfl, hp, hn, q⟩ := h
  obtain ⟨u, rfl, ru⟩ := Vals.one r
  cases (show u = Value.ref p from ru)
  obtain ⟨t1, t2, t3, e⟩ := I.hok p _ hp
  refine call_list_range (t := t1) (u := t2) (v := t3) (I.ok.hd hc) e (small_one (by decide) (by decide) (by omega) (by omega)) (size1 n) (by omega) fun h' tk acc c' hk hS hacc => ?_
  refine ⟨.ref s.heap.objs.size, upd H s.heap.objs.size (.lst (upN n)), I.laid hk (Nat.le_refl _) ?_, rfl, q _ (I.hok.fresh (Nat.le_refl _))⟩
  exact ⟨by unfold upN; rw [List.length_map, List.length_range]; exact Nat.le_trans hn (by decide), acc.toList, c', items_up hacc, by rw [hS]⟩
def dcr : List Int -> Nat
  | [] => 0
  | x :: xs => dcr xs + if x ∈ xs then 0 else 1
def dcount (l : List Int) : Nat := dcr l.reverse
theorem firstMet_dc (ns : List Int) : ∀ i, i <= ns.length -> (firstMet (fun i => ns.getD i 0) i).length = dcount (ns.take i)
  | 0, _ => rfl
  | i + 1, h => by
    have hi : i < ns.length := by omega
    have ih := firstMet_dc ns i (by omega)
    have e1 : ns.take (i + 1) = ns.take i ++ [ns.getD i 0] := by
      rw [List.take_add_one]
      congr 1
      simp [List.getD, hi]
    have e2 : ((List.range i).map fun i => ns.getD i 0) = ns.take i := by
      apply List.ext_getElem?
      intro j
      by_cases hj : j < i
      · rw [List.getElem?_take_of_lt hj, List.getElem?_map, List.getElem?_range hj]
        have : j < ns.length := by omega
        simp [List.getD, this]
      · rw [List.getElem?_take_eq_none (by omega)]
        rw [List.getElem?_eq_none (by simp; omega)]
    have ea := firstMet_any (fun i => ns.getD i 0) i (ns.getD i 0)
    rw [e2] at ea
    rw [firstMet_succ, step_length, ea, ih, e1]
    unfold dcount
    rw [List.reverse_append]
    show _ = dcr (ns.getD i 0 :: (ns.take i).reverse)
    show _ = dcr (ns.take i).reverse + if ns.getD i 0 ∈ (ns.take i).reverse then 0 else 1
    by_cases hm : ns.getD i 0 ∈ ns.take i
    · have h1 : (ns.take i).any (· == ns.getD i 0) = true := List.any_eq_true.mpr ⟨_, hm, by simp⟩
      rw [h1, if_pos (List.mem_reverse.mpr hm)]
      simp
    · have h1 : (ns.take i).any (· == ns.getD i 0) = false := by
        rw [List.any_eq_false]
        intro x hx e
        have : x = ns.getD i 0 := by simpa using e
        exact hm (this ▸ hx)
      rw [h1, if_neg (fun z => hm (List.mem_reverse.mp z))]
      simp
theorem intsAre_V {ns : List Int} : ∀ {us : List Value}, Vals (ns.map V.int) us -> IntsAre us ns := by
  induction ns with
  | nil => intro us r; rw [Vals.zero r]; exact .nil
  | cons y ys ih =>
    intro us r
    cases r with
    | cons h t =>
      obtain ⟨tk, rfl⟩ := h
      exact .cons y tk (ih t)
theorem call_set_ints (hc : X.calm = true) : CallR X (.type "set") (fun xs H Q => ∃ (p : Addr) (ns : List Int), xs = [.ref p] /\ SqL X.K H p (ns.map V.int) /\ ns.length <= 1000 /\ ∀ l S, H l = none -> Q (.ref l) (upd H l (.set S (dcount ns)))) := by
  intro pins s σ H xs us Q I r h
  obtain ⟨p, ns, rfl, hp, hn, q⟩ := h
  obtain ⟨u, rfl, ru⟩ := Vals.one r
  cases (show u = Value.ref p from ru)
  obtain ⟨its, r1, t1, _⟩ := I.list hp
  have hl : its.length = ns.length := by have := r1.length; rw [List.length_map] at this; omega
  refine PySem.call_set_list (I.ok.hd hc) t1.isList (by simpa using intsAre_V r1) (by show its.toArray.size + 1 < 4096; rw [List.size_toArray]; omega) fun h' tk hS hk => ?_
  have hs : its.toArray.size = ns.length := by rw [List.size_toArray, hl]
  rw [hs, firstMet_dc ns ns.length (Nat.le_refl _), List.take_length] at hS
  exact ⟨.ref s.heap.objs.size, upd H s.heap.objs.size (.set _ (dcount ns)), I.laid (fun b o e => hk b o (Heap.lt_size e) e) (Nat.le_refl _) hS, rfl, q _ _ (I.hok.fresh (Nat.le_refl _))⟩
theorem call_len_setH : CallR X (.builtin "len") (fun xs H Q => ∃ (p : Addr) (S : Int -> Bool) (n : Nat), xs = [.ref p] /\ H p = some (.set S n) /\ Q (.int n) H) := by
  intro pins s σ H xs us Q I r h
  obtain ⟨p, S, n, rfl, hp, q⟩ := h
  obtain ⟨u, rfl, ru⟩ := Vals.one r
  cases (show u = Value.ref p from ru)
  obtain ⟨o, es, ep, t, e1, e2, e3, _, _, e4, e5, e6⟩ := I.hok p _ hp
  subst e6
  refine call_len_set e1 e2 e3 e5 ?_ ⟨.int es.size, H, I.tok _, ⟨_, rfl⟩, q⟩
  have : es.size < 4096 := e4
  omega
end
theorem vals_of_ints {us : List Value} {ns : List Int} (h : IntsAre us ns) : Vals (ns.map V.int) us := by
  induction h with
  | nil => exact .nil
  | cons n t _ ih => exact .cons ⟨t, rfl⟩ ih
section
variable {X : Cx}
def rSortedI (K : PySem.W.Frag) : List V -> Hp -> VK -> Prop := fun xs H Q => ∃ (p : Addr) (ns : List Int), xs = [.ref p] /\ SqL K H p (ns.map V.int) /\ ns.length < 64 /\ ∀ (l : Addr) (ms : List Int), ms.Perm ns -> ms.Pairwise (· <= ·) -> H l = none -> Q (.ref l) (upd H l (.lst (ms.map V.int)))
theorem call_sortedI : CallR X (.builtin "sorted") (rSortedI X.K) := by
  intro pins s σ H xs us Q I r h
  obtain ⟨p, ns, rfl, hp, hn, q⟩ := h
  obtain ⟨u, rfl, ru⟩ := Vals.one r
  cases (show u = Value.ref p from ru)
  obtain ⟨its, r1, t1, _⟩ := I.list hp
  have hl : its.length = ns.length := by have := r1.length; rw [List.length_map] at this; lia
  refine sorted_ints t1.isList (intsAre_of r1) (by lia) fun out ms a1 a2 a3 => ?_
  obtain ⟨e, he⟩ := sortedAll_at s.heap its out
  have fr : s.heap.objs.size <= s.heap.objs.size + 1 := Nat.le_succ _
  refine ⟨.ref (s.heap.objs.size + 1), upd H (s.heap.objs.size + 1) (.lst (ms.map V.int)), I.laid (t' := s.toks) (fun b o z => sortedAll_old z) fr ?_, rfl, q _ ms a2 a3 (I.hok.fresh fr)⟩
  refine ⟨?_, out.toList, e, vals_of_ints a1, by rw [he]⟩
  rw [List.length_map, a2.length_eq]
  exact Nat.le_trans (Nat.le_of_lt hn) (by decide)
end
end L2
namespace L2
open PySem PySem.Spec PyProof.Rows PySem.W
def XP (X : Cx) (pins : List (Addr × Obj)) (DX : St -> XK) (e : Value) (s' : Shared) : Prop := ∃ σ H s, Inv X pins σ H s /\ CXr X.prog X.w X.stack H s (DX σ) e s'
section
variable {X : Cx}
end
end L2
namespace L2
open PySem PySem.Spec PyProof.Rows
section
variable {X : Cx}
def rCatA (K : PySem.W.Frag) : R2 := fun x y H Q => ∃ a b xs ys, x = .ref a /\ y = .ref b /\ H a = some (.tup xs) /\ H b = some (.tup ys) /\ xs.length + ys.length <= sizeLine /\ ∀ p H', Same H H' -> H' p = some (.tup (xs ++ ys)) -> Q (.ref p) H'
theorem op_catA : OpR X (binaryOp .Add) (rCatA X.K) := by
  intro pins s σ H x y v u Q I rx ry h
  obtain ⟨a, b, xs, ys, rfl, rfl, ha, hb, hz, q⟩ := h
  by_cases hx : xs = []
  · subst hx
    exact op_cat0 pins s σ H _ _ v u Q I rx ry ⟨a, b, ys, rfl, rfl, SqT.of ha, SqT.of hb, q b H (Same.refl H) hb⟩
  · refine op_catT pins s σ H _ _ v u Q I rx ry ⟨a, b, xs, ys, rfl, rfl, SqT.of ha, SqT.of hb, hx, hz, fun hy => ?_, fun hy p hp => q p _ (Same.new hp) upd_same⟩
    subst hy
    exact q a H (Same.refl H) (by rw [List.append_nil]; exact ha)
end
section
variable {κ : Type} [DecidableEq κ]
end
section
variable {P : Program} {w : World} {H : Hp} {h : Heap} {a : Addr}
end
section
variable {X : Cx} {pins : List (Addr × Obj)} {σ : St} {H : Hp} {s : Shared} {a : Addr} {y v : V} {u r : Value} {o : Option V} {A : Around} {E : Value -> Shared -> Prop}
end
section
variable {X : Cx} {pins : List (Addr × Obj)} {σ : St} {H : Hp} {s : Shared} {a : Addr} {kvs : List (Key × V)} {k : Key} {u : Value} {A : Around} {E : Value -> Shared -> Prop}
end
section
variable {X : Cx} {o i e value : Expr} {pos pos' tpos : Pos} {td ty tv : TE}
end
section
variable {X : Cx} {pos : Pos}
end
section
variable {X : Cx} {pins : List (Addr × Obj)} {σ : St} {H : Hp} {s : Shared} {a : Addr} {y d : V} {u r : Value} {o : Option V} {A : Around} {E : Value -> Shared -> Prop}
end
section
variable {X : Cx} {o e f : Expr} {apos cpos : Pos} {td ty tx : TE}
end
section
variable {X : Cx} {pins : List (Addr × Obj)} {σ : St} {H : Hp} {s : Shared} {a : Addr} {kvs : List (Key × V)} {A : Around} {E : Value -> Shared -> Prop}
end
section
variable {X : Cx} {pins : List (Addr × Obj)} {σ : St} {H : Hp} {s : Shared} {a : Addr} {y : V} {u : Value} {A : Around} {E : Value -> Shared -> Prop}
end
section
variable {prog : Program} {w : World} {A : Around} {E : Value -> Shared -> Prop} {s : Shared} {it d v : Addr} {i ep : Nat} {es : Array DictEntry} {o : Obj}
end
abbrev TTab := List (List Key × V)
section
variable {X : Cx} {pins : List (Addr × Obj)} {σ : St} {H : Hp} {s : Shared} {d : Addr} {kvs : TTab}
end
section
variable {X : Cx}
end
end L2
namespace L2
open PySem PySem.W PyProof.Rows
structure Ord (lt : Nat -> Nat -> Bool) : Prop where
  as : ∀ i j, lt i j = true -> lt j i = false
  tr : ∀ i j k, lt j i = false -> lt k j = false -> lt k i = false
theorem Ord.rf {lt : Nat -> Nat -> Bool} (o : Ord lt) (i : Nat) : lt i i = false := by
  cases h : lt i i with
  | false => rfl
  | true => have := o.as i i h; rw [h] at this; exact this
structure PB (N : Nat) (p : Array Nat) : Prop where
  perm : p.Perm (List.range N).toArray
theorem PB.size {N : Nat} {p : Array Nat} (h : PB N p) : p.size = N := by have := h.perm.size_eq; simpa using this
theorem PB.lt {N : Nat} {p : Array Nat} (h : PB N p) {i : Nat} (hi : i < N) : p.getD i 0 < N := by
  have hs : i < p.size := by rw [h.size]; exact hi
  have e : p.getD i 0 = p[i] := by simp [Array.getD, hs]
  rw [e]
  have hm : p[i] ∈ p := Array.getElem_mem hs
  have := h.perm.mem_iff.mp hm
  simpa using this
theorem PB.rev {N : Nat} {p : Array Nat} (h : PB N p) (i j : Nat) : PB N (kas_rev p i j) := ⟨(mirror_perm p i j _).trans h.perm⟩
theorem PB.bub {N : Nat} {p : Array Nat} (h : PB N p) (i j : Nat) : PB N (bubble p i j) := ⟨(bubble_perm p i j).trans h.perm⟩
theorem getD_of {xs ys : Array Nat} {i j : Nat} (h : xs[i]? = ys[j]?) : xs.getD i 0 = ys.getD j 0 := by
  rw [Array.getD_eq_getD_getElem?, Array.getD_eq_getD_getElem?, h]
theorem rev_at {N : Nat} {p : Array Nat} (h : PB N p) {i j : Nat} (hj : j <= N) (k : Nat) : (kas_rev p i j).getD k 0 = if i <= k /\ k < j then p.getD (i + j - 1 - k) 0 else p.getD k 0 := by
  have e := getElem?_mirror_all (xs := p) (i := i) (j := j) (by rw [h.size]; exact hj) k
  unfold kas_rev
  by_cases c : i <= k /\ k < j
  · rw [if_pos c] at e ⊢; exact getD_of e
  · rw [if_neg c] at e ⊢; exact getD_of e
theorem bub_at {N : Nat} {p : Array Nat} (h : PB N p) {k l : Nat} (hk : k < N) (hl : l <= k) (i : Nat) :
    (bubble p k (k - l)).getD i 0 = if i = l then p.getD k 0 else if l < i /\ i <= k then p.getD (i - 1) 0 else p.getD i 0 := by
  have e := getElem?_bubble (xs := p) (src := k) (by rw [h.size]; exact hk) (k - l) (by lia) i
  rw [show k - (k - l) = l by lia] at e
  by_cases c : i = l
  · rw [if_pos c] at e ⊢; exact getD_of e
  · rw [if_neg c] at e ⊢
    by_cases c2 : l < i /\ i <= k
    · rw [if_pos c2] at e ⊢; exact getD_of e
    · rw [if_neg c2] at e ⊢; exact getD_of e
section
variable {lt : Nat -> Nat -> Bool} {N : Nat}
def Up (lt : Nat -> Nat -> Bool) (p : Array Nat) (m : Nat) : Prop := ∀ i j, i <= j -> j < m -> lt (p.getD j 0) (p.getD i 0) = false
def Flat (lt : Nat -> Nat -> Bool) (p : Array Nat) (a b : Nat) : Prop := ∀ i j, a <= i -> i < b -> a <= j -> j < b -> lt (p.getD i 0) (p.getD j 0) = false
end
end L2
namespace L2
open PySem PySem.W PyProof.Rows
section
variable {prog : Program} {w : World} {A : Around} {E : Value -> Shared -> Prop} {s : Shared}
def Asks (prog : Program) (w : World) (s : Shared) (lt : Nat -> Nat -> Bool) (vs : List Value) : Prop :=
  ∀ (A : Around) (h' : Heap), (∀ b u, s.heap.get? b = some u -> h'.get? b = some u) -> 2 <= vs.length -> ∃ κ : SortKind, (∀ (E : Value -> Shared -> Prop) (Q : SortKind -> Shared -> Prop), Q κ { s with heap := h' } -> wpAny (model prog w) A (keyKind' vs.toArray) Q E { s with heap := h' }) /\
    ∀ (i j : Nat) (C : Bool -> Shared -> Prop), i < vs.length -> j < vs.length -> C (lt i j) { s with heap := h' } -> wpAny (model prog w) A (keyLt' κ (vs.getD i Value.none) (vs.getD j Value.none)) C (fun _ _ => False) { s with heap := h' }
def outOf (vs : List Value) (p : Array Nat) : List Value := p.toList.map fun i => vs.getD i Value.none
theorem sort_one {vs : List Value} (h : ¬ vs.length >= 2) : outOf vs (List.range vs.length).toArray = vs := by
  unfold outOf
  match vs with
  | [] => rfl
  | [v] => rfl
  | _ :: _ :: _ => simp at h
theorem zip_snd (vs : List Value) : (vs.toArray.zip vs.toArray).map (·.2) = vs.toArray := by
  apply Array.toList_inj.mp
  rw [Array.toList_map, Array.toList_zip]
  exact List.map_snd_zip (Nat.le_refl _)
end
end L2
namespace L2
open PySem PySem.W PyProof.Rows
theorem lex_as : ∀ (a b : List Int), HT.lexLt a b = true -> HT.lexLt b a = false
  | [], [], h => by cases h
  | [], _ :: _, _ => rfl
  | _ :: _, [], h => by cases h
  | x :: xs, y :: ys, h => by
    rw [HT.lexLt_cons] at h ⊢
    by_cases e : x = y
    · rw [if_pos e] at h; rw [if_pos e.symm]; exact lex_as xs ys h
    · rw [if_neg e] at h; rw [if_neg (Ne.symm e)]
      have := of_decide_eq_true h
      exact decide_eq_false (by lia)
theorem lex_tr : ∀ (a b c : List Int), HT.lexLt b a = false -> HT.lexLt c b = false -> HT.lexLt c a = false
  | [], [], c, _, h => h
  | [], _ :: _, [], _, h => by cases h
  | [], _ :: _, _ :: _, _, _ => rfl
  | _ :: _, [], _, h, _ => by cases h
  | x :: xs, y :: ys, [], _, h => by cases h
  | x :: xs, y :: ys, z :: zs, h1, h2 => by
    rw [HT.lexLt_cons] at h1 h2 ⊢
    by_cases e1 : y = x
    · rw [if_pos e1] at h1
      by_cases e2 : z = y
      · rw [if_pos e2] at h2
        rw [if_pos (e2.trans e1)]
        exact lex_tr xs ys zs h1 h2
      · rw [if_neg e2] at h2
        rw [if_neg (fun q => e2 (q.trans e1.symm))]
        have := of_decide_eq_false h2
        exact decide_eq_false (by lia)
    · rw [if_neg e1] at h1
      have g1 := of_decide_eq_false h1
      by_cases e2 : z = y
      · rw [if_neg (fun q => e1 (e2.symm.trans q))]
        exact decide_eq_false (by lia)
      · rw [if_neg e2] at h2
        have g2 := of_decide_eq_false h2
        rw [if_neg (by lia)]
        exact decide_eq_false (by lia)
theorem lex_ord (kss : List (List Int)) : Ord fun i j => HT.lexLt (kss.getD i []) (kss.getD j []) := ⟨fun _ _ h => lex_as _ _ h, fun _ _ _ h1 h2 => lex_tr _ _ _ h1 h2⟩
def lexZ (fin : Bool) : List Int -> List Int -> Bool
  | x :: xs, y :: ys => if x = y then lexZ fin xs ys else decide (x < y)
  | _, _ => fin
theorem lexZ_eq : ∀ (a b : List Int), lexZ (decide (a.length < b.length)) a b = HT.lexLt a b
  | [], [] => rfl
  | [], _ :: _ => by show decide _ = true; simp
  | _ :: _, [] => by show decide _ = false; simp
  | x :: xs, y :: ys => by
    rw [HT.lexLt_cons]
    show (if x = y then lexZ _ xs ys else decide (x < y)) = _
    have : decide ((x :: xs).length < (y :: ys).length) = decide (xs.length < ys.length) := by simp
    rw [this, lexZ_eq xs ys]
section
variable {prog : Program} {w : World} {A : Around} {E : Value -> Shared -> Prop} {s : Shared}
theorem ints_lex {fin : Bool} {Q : Bool -> Shared -> Prop} : ∀ {us : List Value} {ks : List Int} {ws : List Value} {ms : List Int} (i : Nat), IntsAre us ks -> IntsAre ws ms -> Q (lexZ fin ks ms) s -> KatLex prog w A true fin Q (us.zip ws) i s
  | _, _, _, _, _, .nil, _, q => kat_nil q
  | _, _, _, _, _, .cons _ _ _, .nil, q => kat_nil q
  | _, _, _, _, i, .cons (vs := us) (ns := ks) x t h1, .cons (vs := ws) (ns := ms) y u h2, q => by
    refine kat_cons (wpAny_eqBool_int (kat_go (fun e => kat_yes (ints_lex (i + 1) h1 h2 ?_)) fun e => kat_no ?_))
    · have : x = y := by simpa using e
      have z : lexZ fin (x :: ks) (y :: ms) = lexZ fin ks ms := by show (if x = y then _ else _) = _; rw [if_pos this]
      rw [z] at q; exact q
    · have : ¬ x = y := by simpa using e
      have z : lexZ fin (x :: ks) (y :: ms) = decide (x < y) := by show (if x = y then _ else _) = _; rw [if_neg this]
      rw [z] at q
      cases h0 : (true && i == 0) with
      | true => exact oneLt_int q
      | false => exact kat_one _ _ (lt_int q)
def TupI (h : Heap) (v : Value) (ks : List Int) : Prop := ∃ a o xs n, v = .ref a /\ h.get? a = some o /\ o.cls = .type "tuple" /\ o.data = .seq xs n /\ IntsAre xs.toList ks
theorem TupI.kept {h h' : Heap} {v : Value} {ks : List Int} (x : TupI h v ks) (k : ∀ b u, h.get? b = some u -> h'.get? b = some u) : TupI h' v ks := let ⟨a, o, xs, n, e, g, r⟩ := x; ⟨a, o, xs, n, e, k _ _ g, r⟩
theorem ints_first {us : List Value} {x : Int} {ks : List Int} (h : IntsAre us (x :: ks)) : ∃ t, us[0]? = some (.int x t) := by
  cases h with
  | cons _ t _ => exact ⟨t, rfl⟩
theorem tups_firsts {h : Heap} : ∀ {vs : List Value} {kss : List (List Int)}, Paired (TupI h) vs kss -> (∀ ks ∈ kss, ks ≠ []) -> ∃ fs, KatTups h vs fs /\ fs.length = vs.length /\ ∀ f ∈ fs, ∃ x t, f = .int x t
  | _, _, .nil, _ => ⟨[], .nil, rfl, fun f hf => nomatch hf⟩
  | _, _, .cons (b := ks) r t, hne => by
    obtain ⟨fs, k, l, a⟩ := tups_firsts t fun ks hk => hne ks (List.mem_cons_of_mem _ hk)
    obtain ⟨ad, o, xs, n, rfl, g, hc, hd, hi⟩ := r
    cases ks with
    | nil => exact absurd rfl (hne _ (List.mem_cons_self ..))
    | cons x ks =>
      obtain ⟨tk, e⟩ := ints_first hi
      refine ⟨.int x tk :: fs, .cons g hc hd (by rw [Array.getElem?_toList] at e; exact e) k, by simp [l], fun f hf => ?_⟩
      rcases List.mem_cons.mp hf with rfl | hf
      · exact ⟨x, tk, rfl⟩
      · exact a f hf
theorem asks_tups {vs : List Value} {kss : List (List Int)} (h : Paired (TupI s.heap) vs kss) (hne : ∀ ks ∈ kss, ks ≠ []) : Asks prog w s (fun i j => HT.lexLt (kss.getD i []) (kss.getD j [])) vs := by
  intro A h' keep two
  have h2 : Paired (TupI h') vs kss := Paired.mapP h fun _ _ x => x.kept keep
  refine ⟨tuples' true, fun E Q q => ?_, fun i j C hi hj q => ?_⟩
  · obtain ⟨fs, k, l, a⟩ := tups_firsts h2 hne
    have e : (Value.type "int" != Value.type "tuple") = true := by decide
    refine kat_kind (T := .type "int") k (by lia) (fun f hf => ?_) (by decide) (by rw [e]; exact q)
    obtain ⟨x, t, rfl⟩ := a f hf
    exact .now
  · have gi : ∀ i, i < vs.length -> ∃ v ks, vs.getD i Value.none = v /\ kss.getD i [] = ks /\ TupI h' v ks := fun i hi => by
      obtain ⟨ks, e, r⟩ := Paired.at h2 (i := i) (a := vs[i]) (by simp [hi])
      exact ⟨vs[i], ks, by simp [hi], by rw [List.getD_eq_getElem?_getD, e]; rfl, r⟩
    obtain ⟨v, ks, ev, ek, a, o, xs, n, rfl, g, _, hd, hI⟩ := gi i hi
    obtain ⟨u, ms, eu, em, b, o2, ys, n2, rfl, g2, _, hd2, hI2⟩ := gi j hj
    rw [ev, eu]
    refine kat_lt (s := { s with heap := h' }) g hd g2 hd2 (ints_lex 0 hI hI2 ?_)
    have l1 : xs.size = ks.length := by have := hI.length; simpa using this
    have l2 : ys.size = ms.length := by have := hI2.length; simpa using this
    rw [l1, l2, lexZ_eq]
    have q' : C (HT.lexLt (kss.getD i []) (kss.getD j [])) { s with heap := h' } := q
    rw [ek, em] at q'
    exact q'
end
def IntsAt (H : Hp) (v : V) (ks : List Int) : Prop := ∃ a, v = .ref a /\ H a = some (.tup (ks.map V.int))
theorem IntsAt.same {H H' : Hp} {v : V} {ks : List Int} (h : IntsAt H v ks) (e : Same H H') : IntsAt H' v ks := let ⟨a, h1, h2⟩ := h; ⟨a, h1, e _ _ h2⟩
def LexLe (a b : List Int) : Prop := HT.lexLt b a = false
section
variable {X : Cx}
theorem paired_map {α β γ : Type} {F : α -> β -> Prop} {f : γ -> α} {g : γ -> β} : ∀ {l : List γ}, (∀ c ∈ l, F (f c) (g c)) -> Paired F (l.map f) (l.map g)
  | [], _ => .nil
  | c :: l, h => .cons (h c (List.mem_cons_self ..)) (paired_map fun d hd => h d (List.mem_cons_of_mem _ hd))
theorem range_getD {α : Type} (l : List α) (d : α) : (List.range l.length).map (fun i => l.getD i d) = l := by
  apply List.ext_getElem
  · simp
  · intro i h1 h2
    simp at h1
    simp [h1]
theorem PB.list {N : Nat} {p : Array Nat} (h : PB N p) : p.toList.Perm (List.range N) := by
  have := Array.perm_iff_toList_perm.mp h.perm
  simpa using this
end
end L2
namespace L2
open PySem PySem.Spec PyProof.Rows
theorem for_seq {k : Kd} {K : PySem.W.Frag} {a : Addr} {xs : List V} {g : TG} {tb : TS} {D : Ends} {σ : St} {H : Hp} (Pv : Nat -> St -> Hp -> Prop) (h0 : Pv 0 σ H) (hl : ∀ i σ H, i <= xs.length -> Pv i σ H -> SqK k K H a xs)
    (hs : ∀ i x σ H, xs[i]? = some x -> Pv i σ H -> g x σ H fun σ2 H2 => tb { D with nx := Pv (i + 1), ct := Pv (i + 1), bk := D.nx } σ2 H2) (hd : ∀ σ H, Pv xs.length σ H -> D.nx σ H) :
    ∃ W : Nat -> Nat -> St -> Hp -> Prop, (∃ m, W 0 m σ H) /\ ∀ i m σ H, W i m σ H ->
      ((ItK k K a).stop i H /\ D.nx σ H) \/ ((ItK k K a).go i H /\ ∃ N : St -> Hp -> Prop, (∀ σ' H', N σ' H' -> ∃ m', m' < m /\ W (i + 1) m' σ' H') /\ ∀ x H', (ItK k K a).yld i H x H' -> g x σ H' fun σ2 H2 => tb { D with nx := N, ct := N, bk := D.nx } σ2 H2) := by
  cases k with
  | l => exact for_list Pv h0 hl hs hd
  | t => exact for_tup Pv h0 hl hs hd
section
variable {X : Cx}
end
section
open PySem.SeqAt
open PySem.AutoSeq1 (wpAny_loadPart')
open PySem.MeetsSeq PySem.MeetsSeq2 PySem.MeetsSeq3
end
section
variable {X : Cx}
end
section
variable {prog : Program} {w : World} {A : Around} {E : Value -> Shared -> Prop} {s : Shared} {it l : Addr} {its : Array Value}
end
section
variable {X : Cx}
end
section
variable {prog : Program} {w : World} {A : Around} {E : Value -> Shared -> Prop} {s : Shared} {a : Addr} {led : Bool} {ns : List Int}
end
section
variable {prog : Program} {w : World} {A : Around} {R : Result -> Shared -> Prop} {I : Addr} {fp wr : List Addr} {G : Array GenState -> Array GenState -> Prop} {n : Nat} {P : Nat -> Value -> Prop} {St : Nat -> Shared -> Prop}
end
section
variable {prog : Program} {w : World} {A : Around} {E : Value -> Shared -> Prop} {s : Shared}
set_option maxHeartbeats 8000000 in
end
section
variable {prog : Program} {w : World} {A : Around} {E : Value -> Shared -> Prop} {s : Shared} {it a : Addr} {o : Obj} {es : Array (Int × Value)} {ep i : Nat} {t : SetTable} {slot : Nat}
end
section
variable {prog : Program} {w : World} {A : Around} {E : Value -> Shared -> Prop} {s : Shared} {it a : Addr} {o : Obj} {es : Array (Int × Value)} {ep i : Nat} {t : SetTable} {slot : Nat}
end
section
variable {prog : Program} {w : World} {A : Around} {E : Value -> Shared -> Prop} {s : Shared} {a : Addr} {o : Obj} {es : Array (Int × Value)} {ep : Nat} {t : SetTable}
end
section
variable {prog : Program} {w : World} {A : Around} {E : Value -> Shared -> Prop} {s : Shared} {a : Addr}
end
section
variable {X : Cx}
end
section
variable {prog : Program} {w : World} {A : Around} {E : Value -> Shared -> Prop} {s : Shared}
theorem collect_tup {l : Addr} {vs : List Value} {Q : List Value -> Shared -> Prop} (hl : IsTup s.heap l vs.toArray) (hsz : vs.length <= sizeLine)
    (h : Q vs { s with heap := (s.heap.push (seqObj "list" #[] 0)).update s.heap.objs.size (Obj.mapSeq (· ++ vs.toArray)) }) : wpAny (model prog w) A (collect (.ref l)) Q E s := by
  obtain ⟨o, ho, hc, n, hd⟩ := id hl
  unfold collect
  refine wpAny_bind (wpAny_runValue (codeAny_builtin entry_proto_collect' ?_))
  show wpAny _ _ (do again (.builtin "list.__iadd__" ⟨[<- newList [], .ref l], []⟩)) _ _ s
  refine wpAny_bind (wpAny_newList (wpAny_pure ⟨Code.quiet_builtin _ (by decide +kernel), codeAny_builtin entry_list_iadd' ?_⟩))
  show wpAny _ _ (Builtin.List.listExtendWith (.ref s.heap.objs.size) (.ref l) (.ref s.heap.objs.size)) _ _ { s with heap := s.heap.push (seqObj "list" #[] 0) }
  have ho' : (s.heap.push (seqObj "list" #[] 0)).get? l = some o := Heap.get?_push_of_some _ ho
  unfold Builtin.List.listExtendWith
  refine wpAny_bind (wpAny_typeOf (T := "tuple") ⟨o, ho', hc⟩ ?_)
  rw [if_pos (by rw [show (Value.type "tuple" == Value.type "tuple") = true from rfl]; simp)]
  refine wpAny_bind (listItems_at ho' hd (wpAny_bind (listItems_at (xs := #[]) (n := 0) (Heap.get?_push_size _ rfl) rfl ?_)))
  rw [if_neg (by simp)]
  refine wpAny_bind (listUpdate_at (xs := #[]) (n := 0) (Heap.get?_push_size _ rfl) rfl (wpAny_pure ?_) (Nat.zero_le _) (by show (#[] ++ vs.toArray).size <= sizeLine + 1; simp only [Array.size_append, List.size_toArray, List.length_nil]; omega))
  show wpAny (model prog w) A (load s.heap.objs.size >>= _) Q E { s with heap := (s.heap.push (seqObj "list" #[] 0)).update s.heap.objs.size (Obj.mapSeq (· ++ vs.toArray)) }
  refine wpAny_bind (wpAny_load (get?_update_seq (Heap.get?_push_size _ rfl) _) ?_)
  show wpAny _ _ (pure ((#[] : Array Value) ++ vs.toArray).toList) Q E _
  rw [show ((#[] : Array Value) ++ vs.toArray).toList = vs by simp]
  exact wpAny_pure h
theorem sorted_tup {l : Addr} {vs : List Value} {ns : List Int} {Q : Value -> Shared -> Prop} (hl : IsTup s.heap l vs.toArray) (hI : IntsAre vs ns) (h64 : vs.length < 64)
    (h : ∀ (out : Array Value) (ms : List Int), IntsAre out.toList ms -> ms.Perm ns -> ms.Pairwise (· <= ·) -> Q (.ref (s.heap.objs.size + 1)) { s with heap := sortedAll s.heap vs out }) :
    wpAny (model prog w) A (call (.builtin "sorted") [.ref l]) Q E s := by
  refine Calls.call_function_entry kind_sorted plain_sorted entry_sorted (args_sorted1 _) ?_
  unfold Builtin.«sorted»
  refine wpAny_bind (m := checkCount "sorted" 1 1 _) (wpAny_pure (wpAny_bind (collect_tup hl (by rw [sizeLine_eq]; omega) (wpAny_bind (wpAny_newList ?_ (by rw [sizeLine_eq]; omega))))))
  have z1 : ((s.heap.push (seqObj "list" #[] 0)).update s.heap.objs.size (Obj.mapSeq (· ++ vs.toArray))).objs.size = s.heap.objs.size + 1 := by rw [Heap.size_update, size_push']
  have oL : (((s.heap.push (seqObj "list" #[] 0)).update s.heap.objs.size (Obj.mapSeq (· ++ vs.toArray))).push (seqObj "list" vs.toArray 0)).get? (s.heap.objs.size + 1) = some (seqObj "list" vs.toArray 0) := by
    rw [<- z1]; exact Heap.get?_push_size _ rfl
  show wpAny _ _ _ _ _ { s with heap := ((s.heap.push (seqObj "list" #[] 0)).update s.heap.objs.size (Obj.mapSeq (· ++ vs.toArray))).push (seqObj "list" vs.toArray 0) }
  rw [z1]
  refine wpAny_bind (wpAny_holding (wpAny_call_entry slot_list_sort ⟨_, oL, rfl⟩ entry_list_sort (list_sort_tree oL hI h64 fun out ms a1 a2 a3 => ⟨_, rfl, ?_⟩) (args_list_sort _)))
  exact wpAny_pure ⟨_, rfl, h out ms a1 a2 a3⟩
end
section
variable {X : Cx}
theorem call_sortedTI : CallR X (.builtin "sorted") (fun xs H Q => ∃ (p : Addr) (ns : List Int), xs = [.ref p] /\ SqT X.K H p (ns.map V.int) /\ ns.length < 64 /\ ∀ (l : Addr) (ms : List Int), ms.Perm ns -> ms.Pairwise (· <= ·) -> H l = none -> Q (.ref l) (upd H l (.lst (ms.map V.int)))) := by
  intro pins s σ H xs us Q I r h
  obtain ⟨p, ns, rfl, hp, hn, q⟩ := h
  obtain ⟨u, rfl, ru⟩ := Vals.one r
  cases (show u = Value.ref p from ru)
  obtain ⟨its, r1, t1, _⟩ := I.tuple hp
  have hl : its.length = ns.length := by have := r1.length; rw [List.length_map] at this; omega
  refine sorted_tup t1 (intsAre_of r1) (by omega) fun out ms a1 a2 a3 => ?_
  obtain ⟨e, he⟩ := sortedAll_at s.heap its out
  have fr : s.heap.objs.size <= s.heap.objs.size + 1 := Nat.le_succ _
  refine ⟨.ref (s.heap.objs.size + 1), upd H (s.heap.objs.size + 1) (.lst (ms.map V.int)), I.laid (t' := s.toks) (fun b o z => sortedAll_old z) fr ?_, rfl, q _ ms a2 a3 (I.hok.fresh fr)⟩
  refine ⟨?_, out.toList, e, vals_of_ints a1, by rw [he]⟩
  rw [List.length_map, a2.length_eq]
  exact Nat.le_trans (Nat.le_of_lt hn) (by decide)
end
end L2
namespace L2
open PySem PySem.W PyProof.Rows
def gallop' : Bool -> Keyed -> Array Keyed -> Nat -> Nat -> Nat -> StateT SortSt Sem (Option Nat) := sortPriv% PySem.Builtin.gallop
section
variable {prog : Program} {w : World} {A : Around} {E : Value -> Shared -> Prop} {s : Shared} {κ : SortKind} {it : Array Keyed} {lt : Nat -> Nat -> Bool} {N : Nat}
def Cmp (prog : Program) (w : World) (A : Around) (κ : SortKind) (it : Array Keyed) (lt : Nat -> Nat -> Bool) (N : Nat) (s : Shared) : Prop := ∀ i j C, i < N -> j < N -> C (lt i j) s -> kas_cmp prog w A κ it i j C s
theorem lt_of {i j : Nat} {st : SortSt} {Q : Option Bool -> SortSt -> Prop} (c : Cmp prog w A κ it lt N s) (hk : kindOf st = κ) (hi : i < N) (hj : j < N) (h : Q (some (lt i j)) st) : wpS (model prog w) A E s (lt' (kas_item it i) (kas_item it j)) Q st := by
  rw [lt'_eq]
  refine wpS_bind (wpS_get ?_)
  rw [hk]
  refine wpS_bind (wpS_lift (wpAny_attempt (wpAny_mono (c i j (fun b s' => s' = s /\ b = lt i j) hi hj ⟨rfl, rfl⟩) (fun b s' z => ?_) fun _ _ hF => hF.elim)))
  obtain ⟨rfl, rfl⟩ := z
  exact ⟨rfl, wpS_pure h⟩
theorem elem_of {q : Array Nat} {i : Nat} {st : SortSt} {Q : Keyed -> SortSt -> Prop} (hi : i < q.size) (h : Q (kas_item it (q.getD i 0)) st) : wpS (model prog w) A E s (elem' (q.map (kas_item it)) i) Q st := by
  rw [elem'_eq]
  have e : (q.map (kas_item it))[i]? = some (kas_item it (q.getD i 0)) := by simp [Array.getD, hi]
  rw [e]
  exact wpS_pure h
def Bey (lt : Nat -> Nat -> Bool) (left : Bool) (k x : Nat) : Bool := if left = true then lt x k else !lt k x
theorem bin_ok {B : Nat -> Bool} {n lo hi : Nat} {st : SortSt} {α : Type} {Q : α -> SortSt -> Prop} {f : Nat -> (Option (Option Nat) × Nat × Nat) -> StateT SortSt Sem (ForInStep (Option (Option Nat) × Nat × Nat))} {g : (Option (Option Nat) × Nat × Nat) -> StateT SortSt Sem α}
    (mono : ∀ i j, i <= j -> j < n -> B j = true -> B i = true)
    (hd : ∀ x lo hi Q', hi <= lo -> Q' (.done (none, lo, hi)) st -> wpS (model prog w) A E s (f x (none, lo, hi)) Q' st)
    (hf : ∀ x lo hi Q', lo < hi -> hi <= n -> (B (lo + (hi - lo) / 2) = true -> Q' (.yield (none, lo + (hi - lo) / 2 + 1, hi)) st) -> (B (lo + (hi - lo) / 2) = false -> Q' (.yield (none, lo, lo + (hi - lo) / 2)) st) -> wpS (model prog w) A E s (f x (none, lo, hi)) Q' st)
    (l1 : lo <= hi) (l2 : hi <= n) (b1 : ∀ i, i < lo -> B i = true) (b2 : ∀ i, hi <= i -> i < n -> B i = false)
    (hg : ∀ lo r, r <= n -> (∀ i, i < r -> B i = true) -> (∀ i, r <= i -> i < n -> B i = false) -> wpS (model prog w) A E s (g (none, lo, r)) Q st) :
    wpS (model prog w) A E s (forIn [:n] ((none, lo, hi) : Option (Option Nat) × Nat × Nat) f >>= g) Q st := by
  refine wpS_bind (wpS_mono (wpS_forRange (I := fun x c st' => st' = st /\ ∃ lo hi, c = (none, lo, hi) /\ lo <= hi /\ hi <= n /\ hi - lo + x <= n /\ (∀ i, i < lo -> B i = true) /\ (∀ i, hi <= i -> i < n -> B i = false))
    (Q := fun c st' => st' = st /\ ∃ lo r, c = (none, lo, r) /\ r <= n /\ (∀ i, i < r -> B i = true) /\ (∀ i, r <= i -> i < n -> B i = false)) ?_ ?_ ⟨rfl, lo, hi, rfl, l1, l2, by omega, b1, b2⟩) ?_)
  · rintro x c st' _ hx ⟨rfl, lo, hi, rfl, l1, l2, l3, b1, b2⟩
    by_cases e : lo < hi
    · refine hf x lo hi _ e l2 (fun z => ⟨rfl, _, _, rfl, by omega, l2, by omega, fun i hi' => mono i _ (by omega) (by omega) z, b2⟩) (fun z => ⟨rfl, _, _, rfl, by omega, by omega, by omega, b1, fun i h1 h2 => ?_⟩)
      cases hB : B i with
      | false => rfl
      | true => rw [mono _ i h1 h2 hB] at z; cases z
    · refine hd x lo hi _ (by omega) ⟨rfl, _, _, rfl, l2, fun i hi' => b1 i (by omega), b2⟩
  · rintro c st' ⟨rfl, lo, hi, rfl, l1, l2, l3, b1, b2⟩
    have : max 0 n = n := by omega
    rw [this] at l3
    exact ⟨rfl, lo, hi, rfl, l2, fun i hi' => b1 i (by omega), b2⟩
  · rintro c st' ⟨rfl, lo, r, rfl, r1, r2, r3⟩
    exact hg lo r r1 r2 r3
theorem gallop_ok {left : Bool} {k : Nat} {q : Array Nat} {base n hint : Nat} {st : SortSt} {Q : Option Nat -> SortSt -> Prop} (c : Cmp prog w A κ it lt N s) (hk : kindOf st = κ) (kN : k < N) (qN : ∀ i, i < q.size -> q.getD i 0 < N) (hb : base + n <= q.size) (hh : hint < n)
    (mono : ∀ i j, i <= j -> j < n -> Bey lt left k (q.getD (base + j) 0) = true -> Bey lt left k (q.getD (base + i) 0) = true)
    (h : ∀ r, r <= n -> (∀ i, i < r -> Bey lt left k (q.getD (base + i) 0) = true) -> (∀ i, r <= i -> i < n -> Bey lt left k (q.getD (base + i) 0) = false) -> Q (some r) st) :
    wpS (model prog w) A E s (gallop' left (kas_item it k) (q.map (kas_item it)) base n hint) Q st := by
  generalize hB : (fun i => Bey lt left k (q.getD (base + i) 0)) = B
  have hB' : ∀ i, Bey lt left k (q.getD (base + i) 0) = B i := fun i => by rw [<- hB]
  simp only [hB'] at mono h
  have bey : ∀ (i : Nat) (Q' : Option Bool -> SortSt -> Prop), i < n -> Q' (some (B i)) st -> wpS (model prog w) A E s (elem' (q.map (kas_item it)) (base + i) >>= fun x => if left = true then lt' x (kas_item it k) else lt' (kas_item it k) x >>= fun r => pure (r.map (!·))) Q' st := by
    intro i Q' hi hq
    rw [<- hB'] at hq
    refine wpS_bind (elem_of (by omega) ?_)
    unfold Bey at hq
    cases left with
    | true =>
      rw [if_pos rfl] at hq ⊢
      exact lt_of c hk (qN _ (by omega)) kN hq
    | false =>
      rw [if_neg (by decide)] at hq ⊢
      exact wpS_bind (lt_of c hk kN (qN _ (by omega)) (wpS_pure hq))
  refine wpS_bind (bey hint _ hh ?_)
  cases b0 : B hint with
  | true =>
    dsimp only
    rw [if_pos rfl]
    refine wpS_bind (wpS_mono (wpS_forRange (I := fun x r st' => st' = st /\ ∃ lo of, r = (none, lo, of) /\ lo < of /\ x < of /\ hint + lo < n /\ B (hint + lo) = true)
      (Q := fun r st' => st' = st /\ ∃ lo of, r = (none, lo, of) /\ lo < of /\ hint + lo < n /\ B (hint + lo) = true /\ (n <= hint + of \/ (hint + of < n /\ B (hint + of) = false))) ?_ ?_ ⟨rfl, 0, 1, rfl, by omega, by omega, by omega, b0⟩) ?_)
    · rintro x r st' _ hx ⟨rfl, lo, of, rfl, l1, l2, l3, l4⟩
      dsimp only
      by_cases e : of >= n - hint
      · rw [if_pos e]
        exact wpS_pure ⟨rfl, lo, of, rfl, l1, l3, l4, .inl (by omega)⟩
      · rw [if_neg e]
        refine wpS_bind (bey (hint + of) _ (by omega) ?_)
        cases b1 : B (hint + of) with
        | true => exact wpS_pure ⟨rfl, of, 2 * of + 1, rfl, by omega, by omega, by omega, b1⟩
        | false => exact wpS_pure ⟨rfl, lo, of, rfl, l1, l3, l4, .inr ⟨by omega, b1⟩⟩
    · rintro r st' ⟨rfl, lo, of, rfl, l1, l2, l3, l4⟩
      exact ⟨rfl, lo, of, rfl, l1, l3, l4, .inl (by omega)⟩
    · rintro r st' ⟨rfl, lo, of, rfl, l1, l3, l4, l5⟩
      dsimp only
      refine bin_ok (B := B) mono ?_ ?_ (by omega) (by omega) (fun i hi => mono i _ (by omega) l3 l4) (fun i h1 h2 => ?_) ?_
      · intro x lo hi Q' e hq
        dsimp only
        rw [if_pos e]
        exact wpS_pure hq
      · intro x lo hi Q' e e2 hq1 hq2
        dsimp only
        rw [if_neg (by omega)]
        refine wpS_bind (bey _ _ (by omega) ?_)
        cases b2 : B (lo + (hi - lo) / 2) with
        | true => exact wpS_pure (hq1 b2)
        | false => exact wpS_pure (hq2 b2)
      · rcases l5 with z | ⟨z, z2⟩
        · omega
        · cases hBi : B i with
          | false => rfl
          | true => rw [mono (hint + of) i (by omega) h2 hBi] at z2; cases z2
      · intro lo r r1 r2 r3
        exact wpS_pure (h r r1 r2 r3)
  | false =>
    dsimp only
    rw [if_neg (by decide)]
    refine wpS_bind (wpS_mono (wpS_forRange (I := fun x r st' => st' = st /\ ∃ lo of, r = (none, lo, of) /\ lo < of /\ x < of /\ lo <= hint /\ B (hint - lo) = false)
      (Q := fun r st' => st' = st /\ ∃ lo of, r = (none, lo, of) /\ lo < of /\ lo <= hint /\ B (hint - lo) = false /\ (hint < of \/ (of <= hint /\ B (hint - of) = true))) ?_ ?_ ⟨rfl, 0, 1, rfl, by omega, by omega, by omega, b0⟩) ?_)
    · rintro x r st' _ hx ⟨rfl, lo, of, rfl, l1, l2, l3, l4⟩
      dsimp only
      by_cases e : of >= hint + 1
      · rw [if_pos e]
        exact wpS_pure ⟨rfl, lo, of, rfl, l1, l3, l4, .inl (by omega)⟩
      · rw [if_neg e]
        refine wpS_bind (bey (hint - of) _ (by omega) ?_)
        cases b1 : B (hint - of) with
        | true => exact wpS_pure ⟨rfl, lo, of, rfl, l1, l3, l4, .inr ⟨by omega, b1⟩⟩
        | false => exact wpS_pure ⟨rfl, of, 2 * of + 1, rfl, by omega, by omega, by omega, b1⟩
    · rintro r st' ⟨rfl, lo, of, rfl, l1, l2, l3, l4⟩
      exact ⟨rfl, lo, of, rfl, l1, l3, l4, .inl (by omega)⟩
    · rintro r st' ⟨rfl, lo, of, rfl, l1, l3, l4, l5⟩
      dsimp only
      refine bin_ok (B := B) mono ?_ ?_ (by omega) (by omega) (fun i hi => ?_) (fun i h1 h2 => ?_) ?_
      · intro x lo hi Q' e hq
        dsimp only
        rw [if_pos e]
        exact wpS_pure hq
      · intro x lo hi Q' e e2 hq1 hq2
        dsimp only
        rw [if_neg (by omega)]
        refine wpS_bind (bey _ _ (by omega) ?_)
        cases b2 : B (lo + (hi - lo) / 2) with
        | true => exact wpS_pure (hq1 b2)
        | false => exact wpS_pure (hq2 b2)
      · rcases l5 with z | ⟨z, z2⟩
        · omega
        · exact mono i (hint - of) (by omega) (by omega) z2
      · cases hBi : B i with
        | false => rfl
        | true => rw [mono (hint - lo) i (by omega) h2 hBi] at l4; cases l4
      · intro lo r r1 r2 r3
        exact wpS_pure (h r r1 r2 r3)
end
end L2
namespace L2
open PySem PySem.W PyProof.Rows
def mergeLo' : Array Keyed -> Array Keyed -> StateT SortSt Sem (Array Keyed) := sortPriv% PySem.Builtin.mergeLo
def mergeHi' : Array Keyed -> Array Keyed -> StateT SortSt Sem (Array Keyed) := sortPriv% PySem.Builtin.mergeHi
def Gs (st st' : SortSt) : Prop := kindOf st' = kindOf st /\ arrOf st' = arrOf st /\ pendingOf st' = pendingOf st /\ failedOf st' = failedOf st
section
variable {lt : Nat -> Nat -> Bool}
abbrev Le (lt : Nat -> Nat -> Bool) (x y : Nat) : Prop := lt y x = false
structure MI (lt : Nat -> Nat -> Bool) (La Lb out : List Nat) (ia ib : Nat) : Prop where
  p : (out ++ (La.drop ia ++ Lb.drop ib)).Perm (La ++ Lb)
  s : out.Pairwise (Le lt)
  c : ∀ x ∈ out, ∀ y ∈ La.drop ia ++ Lb.drop ib, Le lt x y
theorem MI.as {La Lb out : List Nat} {ia ib : Nat} (m : MI lt La Lb out ia ib) (sa : La.Pairwise (Le lt)) (k : Nat) (h : ∀ x ∈ (La.drop ia).take k, ∀ y ∈ Lb.drop ib, Le lt x y) : MI lt La Lb (out ++ (La.drop ia).take k) (ia + k) ib := by
  have e : La.drop (ia + k) = (La.drop ia).drop k := by rw [List.drop_drop]
  have t : (La.drop ia).take k ++ (La.drop ia).drop k = La.drop ia := List.take_append_drop _ _
  have sd : ((La.drop ia).take k ++ (La.drop ia).drop k).Pairwise (Le lt) := by rw [t]; exact sa.sublist (List.drop_sublist _ _)
  obtain ⟨d1, d2, d3⟩ := List.pairwise_append.mp sd
  refine ⟨?_, List.pairwise_append.mpr ⟨m.s, d1, fun x hx y hy => m.c x hx y (List.mem_append_left _ (List.mem_of_mem_take hy))⟩, fun x hx y hy => ?_⟩
  · have := m.p
    rw [<- t] at this
    rw [e]
    simpa [List.append_assoc] using this
  · rw [e] at hy
    rcases List.mem_append.mp hx with hx | hx
    · refine m.c x hx y ?_
      rcases List.mem_append.mp hy with z | z
      · exact List.mem_append_left _ (List.mem_of_mem_drop z)
      · exact List.mem_append_right _ z
    · rcases List.mem_append.mp hy with z | z
      · exact d3 x hx y z
      · exact h x hx y z
theorem MI.bs {La Lb out : List Nat} {ia ib : Nat} (m : MI lt La Lb out ia ib) (sb : Lb.Pairwise (Le lt)) (k : Nat) (h : ∀ x ∈ (Lb.drop ib).take k, ∀ y ∈ La.drop ia, Le lt x y) : MI lt La Lb (out ++ (Lb.drop ib).take k) ia (ib + k) := by
  have e : Lb.drop (ib + k) = (Lb.drop ib).drop k := by rw [List.drop_drop]
  have t : (Lb.drop ib).take k ++ (Lb.drop ib).drop k = Lb.drop ib := List.take_append_drop _ _
  have sd : ((Lb.drop ib).take k ++ (Lb.drop ib).drop k).Pairwise (Le lt) := by rw [t]; exact sb.sublist (List.drop_sublist _ _)
  obtain ⟨d1, d2, d3⟩ := List.pairwise_append.mp sd
  refine ⟨?_, List.pairwise_append.mpr ⟨m.s, d1, fun x hx y hy => m.c x hx y (List.mem_append_right _ (List.mem_of_mem_take hy))⟩, fun x hx y hy => ?_⟩
  · have := m.p
    rw [<- t] at this
    rw [e]
    refine List.Perm.trans ?_ this
    rw [List.append_assoc]
    refine List.Perm.append_left _ ?_
    rw [<- List.append_assoc, <- List.append_assoc]
    exact List.Perm.append_right _ List.perm_append_comm
  · rw [e] at hy
    rcases List.mem_append.mp hx with hx | hx
    · refine m.c x hx y ?_
      rcases List.mem_append.mp hy with z | z
      · exact List.mem_append_left _ z
      · exact List.mem_append_right _ (List.mem_of_mem_drop z)
    · rcases List.mem_append.mp hy with z | z
      · exact h x hx y z
      · exact d3 x hx y z
def Told (lt : Nat -> Nat -> Bool) (it : Array Keyed) (La Lb : List Nat) (res : Array Keyed) : Prop := ∃ L : List Nat, res.toList = L.map (kas_item it) /\ L.Perm (La ++ Lb) /\ L.Pairwise (Le lt)
theorem MI.fin {La Lb out : List Nat} {ia ib : Nat} {it : Array Keyed} {o : Array Keyed} (m : MI lt La Lb out ia ib) (ho : o.toList = out.map (kas_item it)) (sa : La.Pairwise (Le lt)) (sb : Lb.Pairwise (Le lt)) (h : La.drop ia = [] \/ Lb.drop ib = []) :
    Told lt it La Lb (o ++ (La.map (kas_item it)).toArray.extract ia (La.map (kas_item it)).toArray.size ++ (Lb.map (kas_item it)).toArray.extract ib (Lb.map (kas_item it)).toArray.size) := by
  refine ⟨out ++ (La.drop ia ++ Lb.drop ib), ?_, m.p, List.pairwise_append.mpr ⟨m.s, ?_, m.c⟩⟩
  · simp [ho, List.take_of_length_le]
  · rcases h with h | h
    · rw [h, List.nil_append]; exact sb.sublist (List.drop_sublist _ _)
    · rw [h, List.append_nil]; exact sa.sublist (List.drop_sublist _ _)
theorem MI.last {La Lb out : List Nat} {ia ib : Nat} {it : Array Keyed} {o : Array Keyed} (m : MI lt La Lb out ia ib) (ho : o.toList = out.map (kas_item it)) (sa : La.Pairwise (Le lt)) (sb : Lb.Pairwise (Le lt)) (h : ∀ x ∈ Lb, ∀ y ∈ La.drop ia, Le lt x y) :
    Told lt it La Lb (o ++ (Lb.map (kas_item it)).toArray.extract ib (Lb.map (kas_item it)).toArray.size ++ (La.map (kas_item it)).toArray.extract ia (La.map (kas_item it)).toArray.size) := by
  refine ⟨out ++ (Lb.drop ib ++ La.drop ia), ?_, ?_, List.pairwise_append.mpr ⟨m.s, List.pairwise_append.mpr ⟨sb.sublist (List.drop_sublist _ _), sa.sublist (List.drop_sublist _ _), fun x hx y hy => h x (List.mem_of_mem_drop hx) y hy⟩, fun x hx y hy => m.c x hx y ?_⟩⟩
  · simp [ho, List.take_of_length_le]
  · exact (List.Perm.append_left _ List.perm_append_comm).trans m.p
  · rcases List.mem_append.mp hy with z | z
    · exact List.mem_append_right _ z
    · exact List.mem_append_left _ z
end
section
variable {prog : Program} {w : World} {A : Around} {E : Value -> Shared -> Prop} {s : Shared} {κ : SortKind} {it : Array Keyed} {lt : Nat -> Nat -> Bool} {N : Nat}
theorem Le.tr (o : Ord lt) {x y z : Nat} (h1 : Le lt x y) (h2 : Le lt y z) : Le lt x z := o.tr x y z h1 h2
theorem head_le (o : Ord lt) {L : List Nat} {i : Nat} (sL : L.Pairwise (Le lt)) (hi : i < L.length) : ∀ y ∈ L.drop i, Le lt L[i] y := by
  intro y hy
  rw [List.drop_eq_getElem_cons hi] at hy
  rcases List.mem_cons.mp hy with z | z
  · rw [z]; exact o.rf _
  · have := sL.sublist (List.drop_sublist i L)
    rw [List.drop_eq_getElem_cons hi, List.pairwise_cons] at this
    exact this.1 y z
theorem take_one {L : List Nat} {i : Nat} (hi : i < L.length) : (L.drop i).take 1 = [L[i]] := by rw [List.drop_eq_getElem_cons hi]; rfl
theorem wp_ite {α : Type} {c : Prop} [Decidable c] {X Y : StateT SortSt Sem α} {st : SortSt} {Q : α -> SortSt -> Prop} (h1 : c -> wpS (model prog w) A E s X Q st) (h2 : ¬ c -> wpS (model prog w) A E s Y Q st) : wpS (model prog w) A E s (if c then X else Y) Q st := by
  by_cases h : c
  · rw [if_pos h]; exact h1 h
  · rw [if_neg h]; exact h2 h
theorem wp_yes {α : Type} {c : Prop} [Decidable c] {X Y : StateT SortSt Sem α} {st : SortSt} {Q : α -> SortSt -> Prop} (h : c) (h1 : wpS (model prog w) A E s X Q st) : wpS (model prog w) A E s (if c then X else Y) Q st := by rw [if_pos h]; exact h1
theorem wp_no {α : Type} {c : Prop} [Decidable c] {X Y : StateT SortSt Sem α} {st : SortSt} {Q : α -> SortSt -> Prop} (h : ¬ c) (h1 : wpS (model prog w) A E s Y Q st) : wpS (model prog w) A E s (if c then X else Y) Q st := by rw [if_neg h]; exact h1
theorem mem_slice {L : List Nat} {b r x : Nat} (h : x ∈ (L.drop b).take r) : ∃ i, i < r /\ b + i < L.length /\ x = L.getD (b + i) 0 := by
  obtain ⟨i, hi, rfl⟩ := List.getElem_of_mem h
  rw [List.length_take, List.length_drop] at hi
  refine ⟨i, by omega, by omega, ?_⟩
  rw [List.getElem_take, List.getElem_drop, List.getD_eq_getElem?_getD, List.getElem?_eq_getElem (by omega)]
  rfl
theorem mem_dropN {L : List Nat} {b x : Nat} (h : x ∈ L.drop b) : ∃ i, b + i < L.length /\ x = L.getD (b + i) 0 := by
  obtain ⟨i, hi, rfl⟩ := List.getElem_of_mem h
  rw [List.length_drop] at hi
  refine ⟨i, by omega, ?_⟩
  rw [List.getElem_drop, List.getD_eq_getElem?_getD, List.getElem?_eq_getElem (by omega)]
  rfl
theorem gallopL_ok {left : Bool} {k : Nat} {L : List Nat} {base n hint : Nat} {st : SortSt} {Q : Option Nat -> SortSt -> Prop} (c : Cmp prog w A κ it lt N s) (o : Ord lt) (hk : kindOf st = κ) (kN : k < N) (qN : ∀ x ∈ L, x < N) (hb : base + n <= L.length) (hh : hint < n) (sL : L.Pairwise (Le lt))
    (h : ∀ r, r <= n -> (∀ i, i < r -> Bey lt left k (L.getD (base + i) 0) = true) -> (∀ i, r <= i -> i < n -> Bey lt left k (L.getD (base + i) 0) = false) -> Q (some r) st) :
    wpS (model prog w) A E s (gallop' left (kas_item it k) (L.map (kas_item it)).toArray base n hint) Q st := by
  have e : (L.map (kas_item it)).toArray = L.toArray.map (kas_item it) := by simp
  have g : ∀ i, L.toArray.getD i 0 = L.getD i 0 := fun i => by rw [Array.getD_eq_getD_getElem?, List.getD_eq_getElem?_getD]; simp
  rw [e]
  refine gallop_ok c hk kN (fun i hi => ?_) (by simpa using hb) hh (fun i j hij hj hB => ?_) (fun r r1 r2 r3 => h r r1 (fun i hi => ?_) (fun i h1 h2 => ?_))
  · rw [g]
    have hi' : i < L.length := by simpa using hi
    rw [List.getD_eq_getElem?_getD, List.getElem?_eq_getElem hi']
    exact qN _ (List.getElem_mem hi')
  · rw [g] at hB ⊢
    have lij : Le lt (L.getD (base + i) 0) (L.getD (base + j) 0) := by
      have h1 : base + i < L.length := by omega
      have h2 : base + j < L.length := by omega
      rw [List.getD_eq_getElem?_getD, List.getElem?_eq_getElem h1, List.getD_eq_getElem?_getD, List.getElem?_eq_getElem h2]
      by_cases e : i = j
      · subst e; exact o.rf _
      · exact List.pairwise_iff_getElem.mp sL _ _ h1 h2 (by omega)
    unfold Bey at hB ⊢
    cases left with
    | true =>
      rw [if_pos rfl] at hB ⊢
      cases z : lt (L.getD (base + i) 0) k with
      | true => rfl
      | false => rw [Le.tr o (x := k) z lij] at hB; cases hB
    | false =>
      rw [if_neg (by decide)] at hB ⊢
      have hB' : Le lt (L.getD (base + j) 0) k := by simpa using hB
      have := Le.tr o lij hB'
      rw [this]
      rfl
  · have := r2 i hi; rw [g] at this; exact this
  · have := r3 i h1 h2; rw [g] at this; exact this
theorem el_of {L : List Nat} {i : Nat} {st : SortSt} {Q : Keyed -> SortSt -> Prop} (hi : i < L.length) (h : Q (kas_item it L[i]) st) : wpS (model prog w) A E s (elem' (L.map (kas_item it)).toArray i) Q st := by
  rw [elem'_eq]
  have e : (L.map (kas_item it)).toArray[i]? = some (kas_item it L[i]) := by simp [hi]
  rw [e]
  exact wpS_pure h
def At (lt : Nat -> Nat -> Bool) (it : Array Keyed) (La Lb : List Nat) (out : Array Keyed) (ia ib : Nat) : Prop := ∃ L : List Nat, out.toList = L.map (kas_item it) /\ MI lt La Lb L ia ib
theorem At.b1 (o : Ord lt) {La Lb : List Nat} {out : Array Keyed} {ia ib : Nat} (h : At lt it La Lb out ia ib) (sb : Lb.Pairwise (Le lt)) (hi : ib < Lb.length) (hle : ∀ y ∈ La.drop ia, Le lt Lb[ib] y) : At lt it La Lb (out.push (kas_item it Lb[ib])) ia (ib + 1) := by
  obtain ⟨L, e, m⟩ := h
  have := m.bs sb 1 (by rw [take_one hi]; intro x hx; rw [List.mem_singleton.mp hx]; exact hle)
  rw [take_one hi] at this
  exact ⟨_, by rw [Array.toList_push, e, List.map_append]; rfl, this⟩
theorem At.a1 (o : Ord lt) {La Lb : List Nat} {out : Array Keyed} {ia ib : Nat} (h : At lt it La Lb out ia ib) (sa : La.Pairwise (Le lt)) (hi : ia < La.length) (hle : ∀ y ∈ Lb.drop ib, Le lt La[ia] y) : At lt it La Lb (out.push (kas_item it La[ia])) (ia + 1) ib := by
  obtain ⟨L, e, m⟩ := h
  have := m.as sa 1 (by rw [take_one hi]; intro x hx; rw [List.mem_singleton.mp hx]; exact hle)
  rw [take_one hi] at this
  exact ⟨_, by rw [Array.toList_push, e, List.map_append]; rfl, this⟩
theorem At.an {La Lb : List Nat} {out : Array Keyed} {ia ib : Nat} (h : At lt it La Lb out ia ib) (sa : La.Pairwise (Le lt)) (k : Nat) (hle : ∀ x ∈ (La.drop ia).take k, ∀ y ∈ Lb.drop ib, Le lt x y) : At lt it La Lb (out ++ (La.map (kas_item it)).toArray.extract ia (ia + k)) (ia + k) ib := by
  obtain ⟨L, e, m⟩ := h
  exact ⟨_, by simp [e, List.map_take, List.map_drop], m.as sa k hle⟩
theorem At.bn {La Lb : List Nat} {out : Array Keyed} {ia ib : Nat} (h : At lt it La Lb out ia ib) (sb : Lb.Pairwise (Le lt)) (k : Nat) (hle : ∀ x ∈ (Lb.drop ib).take k, ∀ y ∈ La.drop ia, Le lt x y) : At lt it La Lb (out ++ (Lb.map (kas_item it)).toArray.extract ib (ib + k)) ia (ib + k) := by
  obtain ⟨L, e, m⟩ := h
  exact ⟨_, by simp [e, List.map_take, List.map_drop], m.bs sb k hle⟩
end
end L2
namespace L2
open PySem PySem.W PyProof.Rows
section
variable {prog : Program} {w : World} {A : Around} {E : Value -> Shared -> Prop} {s : Shared} {κ : SortKind} {it : Array Keyed} {lt : Nat -> Nat -> Bool} {N : Nat}
theorem Gs.refl (st : SortSt) : Gs st st := ⟨rfl, rfl, rfl, rfl⟩
theorem Told.fin {La Lb : List Nat} {out : Array Keyed} {ia ib : Nat} (h : At lt it La Lb out ia ib) (sa : La.Pairwise (Le lt)) (sb : Lb.Pairwise (Le lt)) (z : La.length <= ia \/ Lb.length <= ib) :
    Told lt it La Lb (out ++ (La.map (kas_item it)).toArray.extract ia (La.map (kas_item it)).toArray.size ++ (Lb.map (kas_item it)).toArray.extract ib (Lb.map (kas_item it)).toArray.size) := by
  obtain ⟨L, e, m⟩ := h
  exact m.fin e sa sb (z.elim (fun z => .inl (List.drop_eq_nil_of_le z)) fun z => .inr (List.drop_eq_nil_of_le z))
theorem Told.last {La Lb : List Nat} {out : Array Keyed} {ia ib : Nat} (h : At lt it La Lb out ia ib) (sa : La.Pairwise (Le lt)) (sb : Lb.Pairwise (Le lt)) (hl : ∀ x ∈ Lb, ∀ y ∈ La.drop (La.length - 1), Le lt x y) (z : ia + 1 = La.length) :
    Told lt it La Lb (out ++ (Lb.map (kas_item it)).toArray.extract ib (Lb.map (kas_item it)).toArray.size ++ (La.map (kas_item it)).toArray.extract ia (La.map (kas_item it)).toArray.size) := by
  obtain ⟨L, e, m⟩ := h
  have : ia = La.length - 1 := by omega
  subst this
  exact m.last e sa sb hl
theorem mergeLo_ok {La Lb : List Nat} {st : SortSt} {Q : Array Keyed -> SortSt -> Prop} (c : Cmp prog w A κ it lt N s) (o : Ord lt) (hk : kindOf st = κ) (aN : ∀ x ∈ La, x < N) (bN : ∀ x ∈ Lb, x < N) (sa : La.Pairwise (Le lt)) (sb : Lb.Pairwise (Le lt)) (ha : 0 < La.length) (hb : 0 < Lb.length)
    (hf : ∀ y ∈ La, Le lt Lb[0] y) (hl : ∀ x ∈ Lb, ∀ y ∈ La.drop (La.length - 1), Le lt x y) (h : ∀ res st', Gs st st' -> Told lt it La Lb res -> Q res st') : wpS (model prog w) A E s (mergeLo' (La.map (kas_item it)).toArray (Lb.map (kas_item it)).toArray) Q st := by
  refine wpS_bind ?_
  refine wpS_lift (wpAny_rule ⟨rfl, ?_⟩)
  dsimp only
  refine wpS_bind (el_of hb ?_)
  have sz : ∀ L : List Nat, (L.map (kas_item it)).toArray.size = L.length := fun L => by simp
  have at0 : At lt it La Lb #[kas_item it Lb[0]] 0 1 := by
    have m0 : MI lt La Lb [] 0 0 := ⟨by simp, .nil, fun x hx => nomatch hx⟩
    have := At.b1 (it := it) o (out := #[]) ⟨[], rfl, m0⟩ sb hb (by simpa using hf)
    exact this
  by_cases e1 : 1 = Lb.length
  · rw [if_pos (by simp [e1])]
    exact wpS_pure (h _ _ (Gs.refl _) (Told.fin at0 sa sb (.inr (by omega))))
  rw [if_neg (by simp [e1])]
  by_cases e2 : 0 + 1 = La.length
  · rw [if_pos (by simp; omega)]
    exact wpS_pure (h _ _ (Gs.refl _) (Told.last at0 sa sb hl e2))
  rw [if_neg (by simp; omega)]
  refine wpS_bind (wpS_get ?_)
  generalize gallopOf st = mg0
  refine wpS_bind (wpS_mono (wpS_forRange
    (I := fun x r st' => Gs st st' /\ ∃ out ia ib mg, r = (none, out, ia, ib, mg) /\ At lt it La Lb out ia ib /\ ia + 1 < La.length /\ ib < Lb.length /\ x + 1 <= ia + ib)
    (Q := fun r st' => Gs st st' /\ ∃ res z, r = (some res, z) /\ Told lt it La Lb res) ?_ ?_ ⟨Gs.refl _, _, 0, 1, _, rfl, at0, by omega, by omega, by omega⟩) ?_)
  rotate_left
  · rintro r st' ⟨_, out, ia, ib, mg, rfl, a1, a2, a3, a4⟩
    exfalso
    rw [sz, sz] at a4
    omega
  · rintro r st' ⟨g, res, z, rfl, t⟩
    exact wpS_pure (h _ _ g t)
  rintro x r st1 _ hx ⟨g1, out, ia, ib, mg, rfl, a1, a2, a3, a4⟩
  dsimp only
  refine wpS_bind (wpS_mono (wpS_forRange
    (I := fun y r st' => st' = st1 /\ ∃ out' ia' ib' ac bc, r = (none, out', ia', ib', ac, bc) /\ At lt it La Lb out' ia' ib' /\ ia' + 1 < La.length /\ ib' < Lb.length /\ ia + ib + y <= ia' + ib')
    (Q := fun r st' => st' = st1 /\ ((∃ res z, r = (some res, z) /\ Told lt it La Lb res) \/ ∃ out' ia' ib' ac bc, r = (none, out', ia', ib', ac, bc) /\ At lt it La Lb out' ia' ib' /\ ia' + 1 < La.length /\ ib' < Lb.length /\ ia + ib + 1 <= ia' + ib')) ?_ ?_ ⟨rfl, _, _, _, _, _, rfl, a1, a2, a3, by omega⟩) ?_)
  · rintro y r st' _ hy ⟨rfl, out, ia', ib', ac, bc, rfl, b1, b2, b3, b4⟩
    dsimp only
    refine wpS_bind (el_of b3 (wpS_bind (el_of (show ia' < La.length by omega) (wpS_bind (lt_of c (g1.1.trans hk) (bN _ (List.getElem_mem _)) (aN _ (List.getElem_mem _)) ?_)))))
    cases w1 : lt Lb[ib'] La[ia'] with
    | true =>
      dsimp only
      rw [if_pos rfl]
      refine wpS_bind (el_of b3 ?_)
      have n1 := At.b1 o b1 sb b3 fun z hz => Le.tr o (o.as _ _ w1) (head_le o sa (by omega) z hz)
      by_cases f1 : ib' + 1 = Lb.length
      · rw [if_pos (by simp [f1])]
        exact wpS_pure ⟨rfl, .inl ⟨_, _, rfl, Told.fin n1 sa sb (.inr (by omega))⟩⟩
      · rw [if_neg (by simp [f1])]
        split
        · exact wpS_pure ⟨rfl, .inr ⟨_, _, _, _, _, rfl, n1, b2, by omega, by omega⟩⟩
        · exact wpS_pure ⟨rfl, _, _, _, _, _, rfl, n1, b2, by omega, by omega⟩
    | false =>
      dsimp only
      rw [if_neg (by decide)]
      refine wpS_bind (el_of (show ia' < La.length by omega) ?_)
      have n1 := At.a1 o b1 sa (show ia' < La.length by omega) fun z hz => Le.tr o w1 (head_le o sb b3 z hz)
      by_cases f1 : ia' + 1 + 1 = La.length
      · rw [if_pos (by simp [f1])]
        exact wpS_pure ⟨rfl, .inl ⟨_, _, rfl, Told.last n1 sa sb hl f1⟩⟩
      · rw [if_neg (by simp [f1])]
        split
        · exact wpS_pure ⟨rfl, .inr ⟨_, _, _, _, _, rfl, n1, by omega, b3, by omega⟩⟩
        · exact wpS_pure ⟨rfl, _, _, _, _, _, rfl, n1, by omega, b3, by omega⟩
  · rintro r st' ⟨_, out, ia', ib', ac, bc, rfl, b1, b2, b3, b4⟩
    exfalso
    rw [sz, sz] at b4
    omega
  rintro r st' ⟨rfl, z⟩
  rcases z with ⟨res, z, rfl, t⟩ | ⟨out2, ia2, ib2, ac, bc, rfl, b1, b2, b3, b4⟩
  · dsimp only
    exact wpS_pure ⟨g1, _, _, rfl, t⟩
  dsimp only
  refine wpS_bind (wpS_lift (wpAny_rule ⟨rfl, ?_⟩))
  refine wpS_bind (wpS_mono (wpS_forRange
    (I := fun y r st' => Gs st st' /\ ∃ out' ia' ib' mg ac bc, r = (none, out', ia', ib', mg, ac, bc) /\ At lt it La Lb out' ia' ib' /\ ia' + 1 < La.length /\ ib' < Lb.length /\ ia + ib + 1 + y <= ia' + ib')
    (Q := fun r st' => Gs st st' /\ ((∃ res z, r = (some res, z) /\ Told lt it La Lb res) \/ ∃ out' ia' ib' mg ac bc, r = (none, out', ia', ib', mg, ac, bc) /\ At lt it La Lb out' ia' ib' /\ ia' + 1 < La.length /\ ib' < Lb.length /\ ia + ib + 1 <= ia' + ib')) ?_ ?_ ⟨g1, _, _, _, _, _, _, rfl, b1, b2, b3, by omega⟩) ?_)
  rotate_left
  · rintro r st' ⟨_, out, ia', ib', mg, ac, bc, rfl, b1, b2, b3, b4⟩
    exfalso
    rw [sz, sz] at b4
    omega
  · rintro r st' ⟨g2, z⟩
    rcases z with ⟨res, z, rfl, t⟩ | ⟨out3, ia3, ib3, mg3, ac3, bc3, rfl, d1, d2, d3, d4⟩
    · dsimp only
      exact wpS_pure ⟨g2, _, _, rfl, t⟩
    · dsimp only
      refine wpS_bind (wpS_modify (wpS_pure ⟨⟨g2.1, g2.2.1, g2.2.2.1, g2.2.2.2⟩, _, _, _, _, rfl, d1, d2, d3, by omega⟩))
  clear b1 b2 b3 b4 a1 a2 a3
  rintro y r st2 _ hy ⟨g2, out, ia', ib', mg, ac, bc, rfl, b1, b2, b3, b4⟩
  dsimp only
  refine wp_ite (fun _ => ?_) (fun _ => ?_)
  all_goals
    refine wpS_bind (wpS_modify ?_)
    refine wpS_bind (el_of b3 ?_)
    refine wpS_bind (gallopL_ok c o (by exact g2.1.trans hk) (bN _ (List.getElem_mem _)) aN (by rw [sz]; omega) (by rw [sz]; omega) sa fun k k1 k2 k3 => ?_)
    rw [sz] at k1 k3
    dsimp only
    have A1 := b1.an sa k fun x hx y hy => by
      obtain ⟨j, j1, j2, rfl⟩ := mem_slice hx
      have := k2 j j1
      unfold Bey at this
      rw [if_neg (by decide)] at this
      exact Le.tr o (show Le lt _ Lb[ib'] by simpa using this) (head_le o sb b3 y hy)
    have R1 : ∀ y ∈ La.drop (ia' + k), Le lt Lb[ib'] y := fun y hy => by
      obtain ⟨j, j1, rfl⟩ := mem_dropN hy
      have := k3 (k + j) (by omega) (by omega)
      unfold Bey at this
      rw [if_neg (by decide), <- Nat.add_assoc] at this
      exact o.as _ _ (by simpa using this)
    by_cases kp : k > 0
    case' pos =>
      refine wp_yes kp ?_
      by_cases f1 : ia' + k + 1 = La.length
      · refine wp_yes (by simp [f1]) ?_
        exact wpS_pure ⟨⟨g2.1, g2.2.1, g2.2.2.1, g2.2.2.2⟩, .inl ⟨_, _, rfl, Told.last A1 sa sb hl f1⟩⟩
      refine wp_no (by simp [f1]) ?_
      by_cases f2 : ia' + k = La.length
      · refine wp_yes (by simp [f2]) ?_
        exact wpS_pure ⟨⟨g2.1, g2.2.1, g2.2.2.1, g2.2.2.2⟩, .inl ⟨_, _, rfl, Told.fin A1 sa sb (.inl (by omega))⟩⟩
      refine wp_no (by simp [f2]) ?_
      have i3 : ia' + k + 1 < La.length := by omega
      have i4 : ia' <= ia' + k := by omega
      generalize out ++ (La.map (kas_item it)).toArray.extract ia' (ia' + k) = o2 at A1 ⊢
      generalize ia' + k = i2 at A1 R1 i3 i4 ⊢
    case' neg =>
      refine wp_no kp ?_
      have k0 : k = 0 := by omega
      rw [k0] at R1
      have i3 : ia' + 1 < La.length := b2
      have i4 : ia' <= ia' := Nat.le_refl _
      clear A1
      have A1 := b1
      generalize hi2 : ia' + 0 = i2 at R1
      rw [Nat.add_zero] at hi2
      rw [hi2] at i3 i4 A1 ⊢
      generalize out = o2 at A1 ⊢
    all_goals
      refine wpS_bind (el_of b3 ?_)
      have A2 := At.b1 o A1 sb b3 R1
      by_cases f3 : ib' + 1 = Lb.length
      · refine wp_yes (by simp [f3]) ?_
        exact wpS_pure ⟨⟨g2.1, g2.2.1, g2.2.2.1, g2.2.2.2⟩, .inl ⟨_, _, rfl, Told.fin A2 sa sb (.inr (by omega))⟩⟩
      refine wp_no (by simp [f3]) ?_
      refine wpS_bind (el_of (show i2 < La.length by omega) ?_)
      refine wpS_bind (gallopL_ok c o (by exact g2.1.trans hk) (aN _ (List.getElem_mem _)) bN (by rw [sz]; omega) (by rw [sz]; omega) sb fun m m1 m2 m3 => ?_)
      rw [sz] at m1 m3
      dsimp only
      have A3 := A2.bn sb m fun x hx y hy => by
        obtain ⟨j, j1, j2, rfl⟩ := mem_slice hx
        have := m2 j j1
        unfold Bey at this
        rw [if_pos rfl] at this
        exact Le.tr o (o.as _ _ this) (head_le o sa (by omega) y hy)
      have R3 : ∀ y ∈ Lb.drop (ib' + 1 + m), Le lt La[i2] y := fun y hy => by
        obtain ⟨j, j1, rfl⟩ := mem_dropN hy
        have := m3 (m + j) (by omega) (by omega)
        unfold Bey at this
        rw [if_pos rfl, <- Nat.add_assoc] at this
        exact this
      have i5 : ib' + 1 < Lb.length := by omega
      by_cases mp : m > 0
      case' pos =>
        refine wp_yes mp ?_
        by_cases f4 : ib' + 1 + m = Lb.length
        · refine wp_yes (by simp [f4]) ?_
          exact wpS_pure ⟨⟨g2.1, g2.2.1, g2.2.2.1, g2.2.2.2⟩, .inl ⟨_, _, rfl, Told.fin A3 sa sb (.inr (by omega))⟩⟩
        refine wp_no (by simp [f4]) ?_
        have j3 : ib' + 1 + m < Lb.length := by omega
        have j4 : ib' + 1 <= ib' + 1 + m := by omega
        generalize o2.push (kas_item it Lb[ib']) ++ (Lb.map (kas_item it)).toArray.extract (ib' + 1) (ib' + 1 + m) = o3 at A3 ⊢
        generalize ib' + 1 + m = j2 at A3 R3 j3 j4 ⊢
      case' neg =>
        refine wp_no mp ?_
        have m0 : m = 0 := by omega
        rw [m0] at R3
        have j3 : ib' + 1 < Lb.length := i5
        have j4 : ib' + 1 <= ib' + 1 := Nat.le_refl _
        clear A3
        have A3 := A2
        rw [Nat.add_zero] at R3
        generalize hj2 : ib' + 1 = j2 at A3 R3 j3 j4 ⊢
        rw [<- hj2] at j4
        generalize o2.push (kas_item it Lb[ib']) = o3 at A3 ⊢
      all_goals
        refine wpS_bind (el_of (show i2 < La.length by omega) ?_)
        have A4 := At.a1 o A3 sa (show i2 < La.length by omega) R3
        by_cases f5 : i2 + 1 + 1 = La.length
        · refine wp_yes (by simp [f5]) ?_
          exact wpS_pure ⟨⟨g2.1, g2.2.1, g2.2.2.1, g2.2.2.2⟩, .inl ⟨_, _, rfl, Told.last A4 sa sb hl f5⟩⟩
        refine wp_no (by simp [f5]) (wp_ite (fun _ => ?_) (fun _ => ?_))
        · exact wpS_pure ⟨⟨g2.1, g2.2.1, g2.2.2.1, g2.2.2.2⟩, .inr ⟨_, _, _, _, _, _, rfl, A4, by omega, j3, by omega⟩⟩
        · exact wpS_pure ⟨⟨g2.1, g2.2.1, g2.2.2.1, g2.2.2.2⟩, _, _, _, _, _, _, rfl, A4, by omega, j3, by omega⟩
end
end L2
namespace L2
open PySem PySem.W PyProof.Rows
section
variable {prog : Program} {w : World} {A : Around} {E : Value -> Shared -> Prop} {s : Shared} {κ : SortKind} {it : Array Keyed} {lt : Nat -> Nat -> Bool} {N : Nat}
structure MH (lt : Nat -> Nat -> Bool) (La Lb R : List Nat) (na nb : Nat) : Prop where
  p : ((La.take na ++ Lb.take nb) ++ R).Perm (La ++ Lb)
  s : R.Pairwise (Le lt)
  c : ∀ x ∈ La.take na ++ Lb.take nb, ∀ y ∈ R, Le lt x y
theorem MH.as {La Lb R : List Nat} {na nb : Nat} (m : MH lt La Lb R na nb) (sa : La.Pairwise (Le lt)) (j : Nat) (hj : j <= na) (h : ∀ x ∈ Lb.take nb, ∀ y ∈ (La.take na).drop j, Le lt x y) : MH lt La Lb ((La.take na).drop j ++ R) j nb := by
  have e : La.take j = (La.take na).take j := by rw [List.take_take, Nat.min_eq_left hj]
  have t : (La.take na).take j ++ (La.take na).drop j = La.take na := List.take_append_drop _ _
  have sd : ((La.take na).take j ++ (La.take na).drop j).Pairwise (Le lt) := by rw [t]; exact sa.sublist (List.take_sublist _ _)
  obtain ⟨d1, d2, d3⟩ := List.pairwise_append.mp sd
  refine ⟨?_, List.pairwise_append.mpr ⟨d2, m.s, fun x hx y hy => m.c x (List.mem_append_left _ (List.mem_of_mem_drop hx)) y hy⟩, fun x hx y hy => ?_⟩
  · refine List.Perm.trans ?_ m.p
    rw [e, <- List.append_assoc]
    refine List.Perm.append_right _ ?_
    conv => rhs; rw [<- t]
    rw [List.append_assoc, List.append_assoc]
    exact List.Perm.append_left _ List.perm_append_comm
  · rw [e] at hx
    rcases List.mem_append.mp hy with hy | hy
    · rcases List.mem_append.mp hx with z | z
      · exact d3 x z y hy
      · exact h x z y hy
    · refine m.c x ?_ y hy
      rcases List.mem_append.mp hx with z | z
      · exact List.mem_append_left _ (List.mem_of_mem_take z)
      · exact List.mem_append_right _ z
theorem MH.bs {La Lb R : List Nat} {na nb : Nat} (m : MH lt La Lb R na nb) (sb : Lb.Pairwise (Le lt)) (j : Nat) (hj : j <= nb) (h : ∀ x ∈ La.take na, ∀ y ∈ (Lb.take nb).drop j, Le lt x y) : MH lt La Lb ((Lb.take nb).drop j ++ R) na j := by
  have e : Lb.take j = (Lb.take nb).take j := by rw [List.take_take, Nat.min_eq_left hj]
  have t : (Lb.take nb).take j ++ (Lb.take nb).drop j = Lb.take nb := List.take_append_drop _ _
  have sd : ((Lb.take nb).take j ++ (Lb.take nb).drop j).Pairwise (Le lt) := by rw [t]; exact sb.sublist (List.take_sublist _ _)
  obtain ⟨d1, d2, d3⟩ := List.pairwise_append.mp sd
  refine ⟨?_, List.pairwise_append.mpr ⟨d2, m.s, fun x hx y hy => m.c x (List.mem_append_right _ (List.mem_of_mem_drop hx)) y hy⟩, fun x hx y hy => ?_⟩
  · refine List.Perm.trans ?_ m.p
    rw [e, <- List.append_assoc, List.append_assoc (La.take na), t]
  · rw [e] at hx
    rcases List.mem_append.mp hy with hy | hy
    · rcases List.mem_append.mp hx with z | z
      · exact h x z y hy
      · exact d3 x z y hy
    · refine m.c x ?_ y hy
      rcases List.mem_append.mp hx with z | z
      · exact List.mem_append_left _ z
      · exact List.mem_append_right _ (List.mem_of_mem_take z)
def Ah (lt : Nat -> Nat -> Bool) (it : Array Keyed) (La Lb : List Nat) (out : Array Keyed) (na nb : Nat) : Prop := ∃ R : List Nat, out.toList = R.reverse.map (kas_item it) /\ MH lt La Lb R na nb
theorem last_one {L : List Nat} {n : Nat} (h0 : 0 < n) (hn : n <= L.length) : (L.take n).drop (n - 1) = [L[n - 1]] := by
  rw [List.drop_take, List.drop_eq_getElem_cons (show n - 1 < L.length by omega), show n - (n - 1) = 1 by omega]
  rfl
theorem last_ge (o : Ord lt) {L : List Nat} {n : Nat} (sL : L.Pairwise (Le lt)) (h0 : 0 < n) (hn : n <= L.length) : ∀ x ∈ L.take n, Le lt x L[n - 1] := by
  intro x hx
  obtain ⟨i, hi, rfl⟩ := List.getElem_of_mem hx
  rw [List.length_take] at hi
  rw [List.getElem_take]
  by_cases e : i = n - 1
  · subst e; exact o.rf _
  · exact List.pairwise_iff_getElem.mp sL _ _ (by omega) (by omega) (by omega)
theorem Ah.a1 {La Lb : List Nat} {out : Array Keyed} {na nb : Nat} (h : Ah lt it La Lb out na nb) (sa : La.Pairwise (Le lt)) (h0 : 0 < na) (hn : na <= La.length) (hle : ∀ x ∈ Lb.take nb, Le lt x La[na - 1]) : Ah lt it La Lb (out.push (kas_item it La[na - 1])) (na - 1) nb := by
  obtain ⟨R, e, m⟩ := h
  have := m.as sa (na - 1) (by omega) (by rw [last_one h0 hn]; intro x hx y hy; rw [List.mem_singleton.mp hy]; exact hle x hx)
  rw [last_one h0 hn] at this
  exact ⟨_, by rw [Array.toList_push, e]; simp, this⟩
theorem Ah.b1 {La Lb : List Nat} {out : Array Keyed} {na nb : Nat} (h : Ah lt it La Lb out na nb) (sb : Lb.Pairwise (Le lt)) (h0 : 0 < nb) (hn : nb <= Lb.length) (hle : ∀ x ∈ La.take na, Le lt x Lb[nb - 1]) : Ah lt it La Lb (out.push (kas_item it Lb[nb - 1])) na (nb - 1) := by
  obtain ⟨R, e, m⟩ := h
  have := m.bs sb (nb - 1) (by omega) (by rw [last_one h0 hn]; intro x hx y hy; rw [List.mem_singleton.mp hy]; exact hle x hx)
  rw [last_one h0 hn] at this
  exact ⟨_, by rw [Array.toList_push, e]; simp, this⟩
theorem Ah.an {La Lb : List Nat} {out : Array Keyed} {na nb : Nat} (h : Ah lt it La Lb out na nb) (sa : La.Pairwise (Le lt)) (j : Nat) (hj : j <= na) (hle : ∀ x ∈ Lb.take nb, ∀ y ∈ (La.take na).drop j, Le lt x y) : Ah lt it La Lb (out ++ ((La.map (kas_item it)).toArray.extract j na).reverse) j nb := by
  obtain ⟨R, e, m⟩ := h
  exact ⟨_, by simp [e, List.drop_take, List.map_take, List.map_drop], m.as sa j hj hle⟩
theorem Ah.bn {La Lb : List Nat} {out : Array Keyed} {na nb : Nat} (h : Ah lt it La Lb out na nb) (sb : Lb.Pairwise (Le lt)) (j : Nat) (hj : j <= nb) (hle : ∀ x ∈ La.take na, ∀ y ∈ (Lb.take nb).drop j, Le lt x y) : Ah lt it La Lb (out ++ ((Lb.map (kas_item it)).toArray.extract j nb).reverse) na j := by
  obtain ⟨R, e, m⟩ := h
  exact ⟨_, by simp [e, List.drop_take, List.map_take, List.map_drop], m.bs sb j hj hle⟩
theorem Told.hi {La Lb : List Nat} {out : Array Keyed} {na nb : Nat} (h : Ah lt it La Lb out na nb) (sa : La.Pairwise (Le lt)) (sb : Lb.Pairwise (Le lt)) (z : na = 0 \/ nb = 0) :
    Told lt it La Lb ((La.map (kas_item it)).toArray.extract 0 na ++ (Lb.map (kas_item it)).toArray.extract 0 nb ++ out.reverse) := by
  obtain ⟨R, e, m⟩ := h
  refine ⟨(La.take na ++ Lb.take nb) ++ R, by simp [e, List.map_take], m.p, List.pairwise_append.mpr ⟨?_, m.s, m.c⟩⟩
  rcases z with z | z
  · rw [z, List.take_zero, List.nil_append]; exact sb.sublist (List.take_sublist _ _)
  · rw [z, List.take_zero, List.append_nil]; exact sa.sublist (List.take_sublist _ _)
theorem Told.first {La Lb : List Nat} {out : Array Keyed} {na nb : Nat} (h : Ah lt it La Lb out na nb) (sa : La.Pairwise (Le lt)) (sb : Lb.Pairwise (Le lt)) (z : ∀ x ∈ Lb.take nb, ∀ y ∈ La, Le lt x y) :
    Told lt it La Lb ((Lb.map (kas_item it)).toArray.extract 0 nb ++ (La.map (kas_item it)).toArray.extract 0 na ++ out.reverse) := by
  obtain ⟨R, e, m⟩ := h
  refine ⟨(Lb.take nb ++ La.take na) ++ R, by simp [e, List.map_take], (List.Perm.append_right _ List.perm_append_comm).trans m.p, List.pairwise_append.mpr ⟨List.pairwise_append.mpr ⟨sb.sublist (List.take_sublist _ _), sa.sublist (List.take_sublist _ _), fun x hx y hy => z x hx y (List.mem_of_mem_take hy)⟩, m.s, fun x hx y hy => m.c x ?_ y hy⟩⟩
  rcases List.mem_append.mp hx with z | z
  · exact List.mem_append_right _ z
  · exact List.mem_append_left _ z
theorem mergeHi_ok {La Lb : List Nat} {st : SortSt} {Q : Array Keyed -> SortSt -> Prop} (c : Cmp prog w A κ it lt N s) (o : Ord lt) (hk : kindOf st = κ) (aN : ∀ x ∈ La, x < N) (bN : ∀ x ∈ Lb, x < N) (sa : La.Pairwise (Le lt)) (sb : Lb.Pairwise (Le lt)) (ha : 0 < La.length) (hb : 0 < Lb.length)
    (hf : ∀ y ∈ La, Le lt Lb[0] y) (hl : ∀ x ∈ Lb, Le lt x La[La.length - 1]) (h : ∀ res st', Gs st st' -> Told lt it La Lb res -> Q res st') : wpS (model prog w) A E s (mergeHi' (La.map (kas_item it)).toArray (Lb.map (kas_item it)).toArray) Q st := by
  refine wpS_bind ?_
  refine wpS_lift (wpAny_rule ⟨rfl, ?_⟩)
  dsimp only
  have sz : ∀ L : List Nat, (L.map (kas_item it)).toArray.size = L.length := fun L => by simp
  simp only [sz]
  refine wpS_bind (el_of (show La.length - 1 < La.length by omega) ?_)
  have hf1 : ∀ x ∈ Lb.take 1, ∀ y ∈ La, Le lt x y := fun x hx y hy => by
    rw [show Lb.take 1 = [Lb[0]] by have := take_one (L := Lb) hb; simpa using this] at hx
    rw [List.mem_singleton.mp hx]
    exact hf y hy
  have at0 : Ah lt it La Lb #[kas_item it La[La.length - 1]] (La.length - 1) Lb.length := by
    have m0 : MH lt La Lb [] La.length Lb.length := ⟨by simp, .nil, fun x _ y hy => nomatch hy⟩
    exact Ah.a1 (it := it) (out := #[]) ⟨[], rfl, m0⟩ sa ha (Nat.le_refl _) fun x hx => hl x (List.mem_of_mem_take hx)
  by_cases e1 : La.length - 1 = 0
  · refine wp_yes (by simp [e1]) ?_
    exact wpS_pure (h _ _ (Gs.refl _) (Told.hi at0 sa sb (.inl e1)))
  refine wp_no (by simpa using e1) ?_
  by_cases e2 : Lb.length = 1
  · refine wp_yes (by simp [e2]) ?_
    exact wpS_pure (h _ _ (Gs.refl _) (Told.first at0 sa sb (by rw [e2]; exact hf1)))
  refine wp_no (by simpa using e2) ?_
  refine wpS_bind (wpS_get ?_)
  refine wpS_bind (wpS_mono (wpS_forRange
    (I := fun x r st' => Gs st st' /\ ∃ na nb out mg, r = (none, na, nb, out, mg) /\ Ah lt it La Lb out na nb /\ 0 < na /\ na <= La.length /\ 1 < nb /\ nb <= Lb.length /\ na + nb + x + 1 <= La.length + Lb.length)
    (Q := fun r st' => Gs st st' /\ ∃ res z, r = (some res, z) /\ Told lt it La Lb res) ?_ ?_ ⟨Gs.refl _, _, _, _, _, rfl, at0, by omega, by omega, by omega, by omega, by omega⟩) ?_)
  rotate_left
  · rintro r st' ⟨_, na, nb, out, mg, rfl, a1, a2, a3, a4, a5, a6⟩
    exfalso
    omega
  · rintro r st' ⟨g, res, z, rfl, t⟩
    exact wpS_pure (h _ _ g t)
  rintro x r st1 _ hx ⟨g1, na, nb, out, mg, rfl, a1, a2, a3, a4, a5, a6⟩
  dsimp only
  refine wpS_bind (wpS_mono (wpS_forRange
    (I := fun y r st' => st' = st1 /\ ∃ na' nb' out' ac bc, r = (none, na', nb', out', ac, bc) /\ Ah lt it La Lb out' na' nb' /\ 0 < na' /\ na' <= La.length /\ 1 < nb' /\ nb' <= Lb.length /\ na' + nb' + y <= na + nb)
    (Q := fun r st' => st' = st1 /\ ((∃ res z, r = (some res, z) /\ Told lt it La Lb res) \/ ∃ na' nb' out' ac bc, r = (none, na', nb', out', ac, bc) /\ Ah lt it La Lb out' na' nb' /\ 0 < na' /\ na' <= La.length /\ 1 < nb' /\ nb' <= Lb.length /\ na' + nb' + 1 <= na + nb)) ?_ ?_ ⟨rfl, _, _, _, _, _, rfl, a1, a2, a3, a4, a5, by omega⟩) ?_)
  · rintro y r st' _ hy ⟨rfl, na', nb', out, ac, bc, rfl, b1, b2, b3, b4, b5, b6⟩
    dsimp only
    refine wpS_bind (el_of (show nb' - 1 < Lb.length by omega) (wpS_bind (el_of (show na' - 1 < La.length by omega) (wpS_bind (lt_of c (g1.1.trans hk) (bN _ (List.getElem_mem _)) (aN _ (List.getElem_mem _)) ?_)))))
    cases w1 : lt Lb[nb' - 1] La[na' - 1] with
    | true =>
      dsimp only
      refine wp_yes rfl ?_
      refine wpS_bind (el_of (show na' - 1 < La.length by omega) ?_)
      have n1 := Ah.a1 b1 sa b2 b3 fun z hz => Le.tr o (last_ge o sb (by omega) b5 z hz) (o.as _ _ w1)
      by_cases f1 : na' - 1 = 0
      · refine wp_yes (by simp [f1]) ?_
        exact wpS_pure ⟨rfl, .inl ⟨_, _, rfl, Told.hi n1 sa sb (.inl f1)⟩⟩
      · refine wp_no (by simpa using f1) (wp_ite (fun _ => ?_) (fun _ => ?_))
        · exact wpS_pure ⟨rfl, .inr ⟨_, _, _, _, _, rfl, n1, by omega, by omega, b4, b5, by omega⟩⟩
        · exact wpS_pure ⟨rfl, _, _, _, _, _, rfl, n1, by omega, by omega, b4, b5, by omega⟩
    | false =>
      dsimp only
      refine wp_no (by decide) ?_
      refine wpS_bind (el_of (show nb' - 1 < Lb.length by omega) ?_)
      have n1 := Ah.b1 b1 sb (by omega) b5 fun z hz => Le.tr o (last_ge o sa b2 b3 z hz) w1
      by_cases f1 : nb' - 1 = 1
      · refine wp_yes (by simp [f1]) ?_
        exact wpS_pure ⟨rfl, .inl ⟨_, _, rfl, Told.first n1 sa sb (by rw [f1]; exact hf1)⟩⟩
      · refine wp_no (by simpa using f1) (wp_ite (fun _ => ?_) (fun _ => ?_))
        · exact wpS_pure ⟨rfl, .inr ⟨_, _, _, _, _, rfl, n1, b2, b3, by omega, by omega, by omega⟩⟩
        · exact wpS_pure ⟨rfl, _, _, _, _, _, rfl, n1, b2, b3, by omega, by omega, by omega⟩
  · rintro r st' ⟨_, na', nb', out, ac, bc, rfl, b1, b2, b3, b4, b5, b6⟩
    exfalso
    omega
  rintro r st' ⟨rfl, z⟩
  rcases z with ⟨res, z, rfl, t⟩ | ⟨na2, nb2, out2, ac, bc, rfl, b1, b2, b3, b4, b5, b6⟩
  · dsimp only
    exact wpS_pure ⟨g1, _, _, rfl, t⟩
  dsimp only
  refine wpS_bind (wpS_lift (wpAny_rule ⟨rfl, ?_⟩))
  refine wpS_bind (wpS_mono (wpS_forRange
    (I := fun y r st' => Gs st st' /\ ∃ na' nb' out' mg ac bc, r = (none, na', nb', out', mg, ac, bc) /\ Ah lt it La Lb out' na' nb' /\ 0 < na' /\ na' <= La.length /\ 1 < nb' /\ nb' <= Lb.length /\ na' + nb' + y + 1 <= na + nb)
    (Q := fun r st' => Gs st st' /\ ((∃ res z, r = (some res, z) /\ Told lt it La Lb res) \/ ∃ na' nb' out' mg ac bc, r = (none, na', nb', out', mg, ac, bc) /\ Ah lt it La Lb out' na' nb' /\ 0 < na' /\ na' <= La.length /\ 1 < nb' /\ nb' <= Lb.length /\ na' + nb' + 1 <= na + nb)) ?_ ?_ ⟨g1, _, _, _, _, _, _, rfl, b1, b2, b3, b4, b5, by omega⟩) ?_)
  rotate_left
  · rintro r st' ⟨_, na', nb', out, mg, ac, bc, rfl, b1, b2, b3, b4, b5, b6⟩
    exfalso
    omega
  · rintro r st' ⟨g2, z⟩
    rcases z with ⟨res, z, rfl, t⟩ | ⟨na3, nb3, out3, mg3, ac3, bc3, rfl, d1, d2, d3, d4, d5, d6⟩
    · dsimp only
      exact wpS_pure ⟨g2, _, _, rfl, t⟩
    · dsimp only
      refine wpS_bind (wpS_modify (wpS_pure ⟨⟨g2.1, g2.2.1, g2.2.2.1, g2.2.2.2⟩, _, _, _, _, rfl, d1, d2, d3, d4, d5, by omega⟩))
  clear b1 b2 b3 b4 b5 b6 a1
  rintro y r st2 _ hy ⟨g2, na', nb', out, mg, ac, bc, rfl, b1, b2, b3, b4, b5, b6⟩
  dsimp only
  refine wp_ite (fun _ => ?_) (fun _ => ?_)
  all_goals
    refine wpS_bind (wpS_modify ?_)
    refine wpS_bind (el_of (show nb' - 1 < Lb.length by omega) ?_)
    refine wpS_bind (gallopL_ok c o (by exact g2.1.trans hk) (bN _ (List.getElem_mem _)) aN (by omega) (by omega) sa fun k k1 k2 k3 => ?_)
    dsimp only
    simp only [Nat.zero_add] at k2 k3
    have A1 := b1.an sa k k1 fun x hx y hy => by
      rw [List.drop_take] at hy
      obtain ⟨j, j1, j2, rfl⟩ := mem_slice hy
      have := k3 (k + j) (by omega) (by omega)
      unfold Bey at this
      rw [if_neg (by decide)] at this
      exact Le.tr o (last_ge o sb (by omega) b5 x hx) (o.as _ _ (by simpa using this))
    have R1 : ∀ x ∈ La.take k, Le lt x Lb[nb' - 1] := fun x hx => by
      obtain ⟨j, j1, j2, rfl⟩ := mem_slice (b := 0) (by simpa using hx)
      have := k2 j j1
      unfold Bey at this
      rw [if_neg (by decide)] at this
      rw [Nat.zero_add]
      simpa using this
    by_cases kp : na' - k > 0
    case' pos =>
      refine wp_yes kp ?_
      by_cases f2 : k = 0
      · refine wp_yes (by simp [f2]) ?_
        exact wpS_pure ⟨⟨g2.1, g2.2.1, g2.2.2.1, g2.2.2.2⟩, .inl ⟨_, _, rfl, Told.hi A1 sa sb (.inl f2)⟩⟩
      refine wp_no (by simpa using f2) ?_
      have i3 : 0 < k := by omega
      have i4 : k <= na' := k1
      generalize out ++ ((La.map (kas_item it)).toArray.extract k na').reverse = o2 at A1 ⊢
      generalize na' - k = ck
      clear k2 k3 kp f2
      generalize k = i2 at A1 R1 i3 i4 ⊢
    case' neg =>
      refine wp_no kp ?_
      have k0 : k = na' := by omega
      rw [k0] at R1
      have i3 : 0 < na' := b2
      have i4 : na' <= na' := Nat.le_refl _
      clear A1
      have A1 := b1
      rw [k0] at *
      clear k1 k2 k3 k0
      generalize out = o2 at A1 ⊢
      generalize na' - na' = ck
      obtain ⟨i2, ei2⟩ : ∃ i2, i2 = na' := ⟨_, rfl⟩
      rw [<- ei2] at A1 R1 i3 ⊢
      have i4 : i2 <= na' := by omega
    all_goals
      refine wpS_bind (el_of (show nb' - 1 < Lb.length by omega) ?_)
      have A2 := Ah.b1 A1 sb (by omega) b5 R1
      by_cases f3 : nb' - 1 = 1
      · refine wp_yes (by simp [f3]) ?_
        exact wpS_pure ⟨⟨g2.1, g2.2.1, g2.2.2.1, g2.2.2.2⟩, .inl ⟨_, _, rfl, Told.first A2 sa sb (by rw [f3]; exact hf1)⟩⟩
      refine wp_no (by simpa using f3) ?_
      refine wpS_bind (el_of (show i2 - 1 < La.length by omega) ?_)
      refine wpS_bind (gallopL_ok c o (by exact g2.1.trans hk) (aN _ (List.getElem_mem _)) bN (by omega) (by omega) sb fun m m1 m2 m3 => ?_)
      dsimp only
      simp only [Nat.zero_add] at m2 m3
      have A3 := A2.bn sb m m1 fun x hx y hy => by
        rw [List.drop_take] at hy
        obtain ⟨j, j1, j2, rfl⟩ := mem_slice hy
        have := m3 (m + j) (by omega) (by omega)
        unfold Bey at this
        rw [if_pos rfl] at this
        exact Le.tr o (last_ge o sa i3 (by omega) x hx) this
      have R3 : ∀ x ∈ Lb.take m, Le lt x La[i2 - 1] := fun x hx => by
        obtain ⟨j, j1, j2, rfl⟩ := mem_slice (b := 0) (by simpa using hx)
        have := m2 j j1
        unfold Bey at this
        rw [if_pos rfl] at this
        rw [Nat.zero_add]
        exact o.as _ _ this
      by_cases mp : nb' - 1 - m > 0
      case' pos =>
        refine wp_yes mp ?_
        by_cases f4 : m = 1
        · refine wp_yes (by simp [f4]) ?_
          exact wpS_pure ⟨⟨g2.1, g2.2.1, g2.2.2.1, g2.2.2.2⟩, .inl ⟨_, _, rfl, Told.first A3 sa sb (by rw [f4]; exact hf1)⟩⟩
        refine wp_no (by simpa using f4) ?_
        by_cases f5 : m = 0
        · refine wp_yes (by simp [f5]) ?_
          exact wpS_pure ⟨⟨g2.1, g2.2.1, g2.2.2.1, g2.2.2.2⟩, .inl ⟨_, _, rfl, Told.hi A3 sa sb (.inr f5)⟩⟩
        refine wp_no (by simpa using f5) ?_
        have j3 : 1 < m := by omega
        have j4 : m + 1 <= nb' := by omega
        generalize o2.push (kas_item it Lb[nb' - 1]) ++ ((Lb.map (kas_item it)).toArray.extract m (nb' - 1)).reverse = o3 at A3 ⊢
        generalize nb' - 1 - m = cm
        clear m2 m3 mp f4 f5
        generalize m = j2 at A3 R3 j3 j4 ⊢
      case' neg =>
        refine wp_no mp ?_
        have m0 : m = nb' - 1 := by omega
        rw [m0] at R3
        clear A3
        have A3 := A2
        generalize nb' - 1 - m = cm
        generalize o2.push (kas_item it Lb[nb' - 1]) = o3 at A3 ⊢
        obtain ⟨j2, ej2⟩ : ∃ j2, j2 = nb' - 1 := ⟨_, rfl⟩
        rw [<- ej2] at A3 R3 ⊢
        have j3 : 1 < j2 := by omega
        have j4 : j2 + 1 <= nb' := by omega
      all_goals
        refine wpS_bind (el_of (show i2 - 1 < La.length by omega) ?_)
        have A4 := Ah.a1 A3 sa i3 (by omega) R3
        by_cases f6 : i2 - 1 = 0
        · refine wp_yes (by simp [f6]) ?_
          exact wpS_pure ⟨⟨g2.1, g2.2.1, g2.2.2.1, g2.2.2.2⟩, .inl ⟨_, _, rfl, Told.hi A4 sa sb (.inl f6)⟩⟩
        refine wp_no (by simpa using f6) (wp_ite (fun _ => ?_) (fun _ => ?_))
        · exact wpS_pure ⟨⟨g2.1, g2.2.1, g2.2.2.1, g2.2.2.2⟩, .inr ⟨_, _, _, _, _, _, rfl, A4, by omega, by omega, j3, by omega, by omega⟩⟩
        · exact wpS_pure ⟨⟨g2.1, g2.2.1, g2.2.2.1, g2.2.2.2⟩, _, _, _, _, _, _, rfl, A4, by omega, by omega, j3, by omega, by omega⟩
end
end L2
namespace L2
open PySem PySem.W PyProof.Rows
section
variable {prog : Program} {w : World} {A : Around} {E : Value -> Shared -> Prop} {s : Shared} {κ : SortKind} {it : Array Keyed} {lt : Nat -> Nat -> Bool} {N : Nat}
theorem wpS_put {x st : SortSt} {Q : PUnit -> SortSt -> Prop} (h : Q ⟨⟩ x) : wpS (model prog w) A E s (set x : StateT SortSt Sem PUnit) Q st := by
  unfold wpS
  rw [StateT.run_set]
  exact wpAny_pure ⟨rfl, h⟩
theorem gallopS_ok {left : Bool} {k : Nat} {L X : List Nat} {base hint : Nat} {st : SortSt} {Q : Option Nat -> SortSt -> Prop} (c : Cmp prog w A κ it lt N s) (o : Ord lt) (hk : kindOf st = κ) (kN : k < N) (qN : ∀ x ∈ L, x < N) (hb : base + X.length <= L.length) (hs : ∀ j, j < X.length -> L.getD (base + j) 0 = X.getD j 0) (hh : hint < X.length) (sX : X.Pairwise (Le lt))
    (h : ∀ r, r <= X.length -> (∀ x ∈ X.take r, Bey lt left k x = true) -> (∀ x ∈ X.drop r, Bey lt left k x = false) -> Q (some r) st) :
    wpS (model prog w) A E s (gallop' left (kas_item it k) (L.map (kas_item it)).toArray base X.length hint) Q st := by
  have e : (L.map (kas_item it)).toArray = L.toArray.map (kas_item it) := by simp
  have g : ∀ i, L.toArray.getD i 0 = L.getD i 0 := fun i => by rw [Array.getD_eq_getD_getElem?, List.getD_eq_getElem?_getD]; simp
  rw [e]
  refine gallop_ok c hk kN (fun i hi => ?_) (by simpa using hb) hh (fun i j hij hj hB => ?_) (fun r r1 r2 r3 => h r r1 (fun x hx => ?_) (fun x hx => ?_))
  · rw [g]
    have hi' : i < L.length := by simpa using hi
    rw [List.getD_eq_getElem?_getD, List.getElem?_eq_getElem hi']
    exact qN _ (List.getElem_mem hi')
  · rw [g, hs _ (by omega)] at hB ⊢
    have lij : Le lt (X.getD i 0) (X.getD j 0) := by
      have h1 : i < X.length := by omega
      rw [List.getD_eq_getElem?_getD, List.getElem?_eq_getElem h1, List.getD_eq_getElem?_getD, List.getElem?_eq_getElem hj]
      by_cases e : i = j
      · subst e; exact o.rf _
      · exact List.pairwise_iff_getElem.mp sX _ _ h1 hj (by omega)
    unfold Bey at hB ⊢
    cases left with
    | true =>
      rw [if_pos rfl] at hB ⊢
      cases z : lt (X.getD i 0) k with
      | true => rfl
      | false => rw [Le.tr o (x := k) z lij] at hB; cases hB
    | false =>
      rw [if_neg (by decide)] at hB ⊢
      have hB' : Le lt (X.getD j 0) k := by simpa using hB
      have := Le.tr o lij hB'
      rw [this]
      rfl
  · obtain ⟨i, i1, i2, rfl⟩ := mem_slice (b := 0) (by simpa using hx)
    rw [Nat.zero_add] at i2 ⊢
    have := r2 i i1
    rw [g, hs _ i2] at this
    exact this
  · obtain ⟨i, i1, rfl⟩ := mem_dropN hx
    have := r3 (r + i) (by omega) i1
    rw [g, hs _ i1] at this
    exact this
theorem mid_of {α β : Type} (f : α -> β) (P B C : List α) (a b : Nat) (ha : a = P.length) (hb : b = P.length + B.length) : ((P ++ B ++ C).map f).toArray.extract a b = (B.map f).toArray := by
  subst ha hb
  apply Array.toList_inj.mp
  simp
theorem set_go {α : Type} (b : Nat) : ∀ (M P X Z : List α) (k : Nat), P.length = b + k -> X.length = M.length -> ((M.zipIdx k).foldl (fun (a : Array α) (p : α × Nat) => a.setIfInBounds (b + p.2) p.1) (P ++ X ++ Z).toArray) = (P ++ M ++ Z).toArray
  | [], P, X, Z, k, _, h => by
    have : X = [] := List.eq_nil_of_length_eq_zero (by simpa using h)
    subst this
    rfl
  | m :: M, P, X, Z, k, hp, h => by
    cases X with
    | nil => simp at h
    | cons x X =>
      rw [List.zipIdx_cons, List.foldl_cons]
      have e : (P ++ x :: X ++ Z).toArray.setIfInBounds (b + k) m = ((P ++ [m]) ++ X ++ Z).toArray := by
        apply Array.toList_inj.mp
        rw [Array.toList_setIfInBounds]
        show (P ++ x :: X ++ Z).set (b + k) m = P ++ [m] ++ X ++ Z
        rw [<- hp]
        simp
      show (M.zipIdx (k + 1)).foldl _ ((P ++ x :: X ++ Z).toArray.setIfInBounds (b + k) m) = _
      rw [e, set_go b M (P ++ [m]) X Z (k + 1) (by rw [List.length_append]; show P.length + 1 = _; omega) (by simpa using h)]
      simp
structure StAt (κ : SortKind) (it : Array Keyed) (st : SortSt) (L : List Nat) (pd : Array (Nat × Nat × Nat)) : Prop where
  k : kindOf st = κ
  a : arrOf st = (L.map (kas_item it)).toArray
  p : pendingOf st = pd
  f : failedOf st = none
theorem mergeAt_ok {i : Nat} {P X Y Z : List Nat} {pd : Array (Nat × Nat × Nat)} {pw pw2 : Nat} {st : SortSt} {Q : Bool -> SortSt -> Prop} (c : Cmp prog w A κ it lt N s) (o : Ord lt) (h0 : StAt κ it st (P ++ X ++ Y ++ Z) pd) (lN : ∀ x ∈ P ++ X ++ Y ++ Z, x < N)
    (p1 : pd[i]? = some (P.length, X.length, pw)) (p2 : pd[i + 1]? = some (P.length + X.length, Y.length, pw2)) (hX : 0 < X.length) (hY : 0 < Y.length) (sX : X.Pairwise (Le lt)) (sY : Y.Pairwise (Le lt))
    (h : ∀ st' W, StAt κ it st' (P ++ W ++ Z) ((pd.setIfInBounds i (P.length, X.length + Y.length, pw)).eraseIdxIfInBounds (i + 1)) -> W.Perm (X ++ Y) -> W.Pairwise (Le lt) -> Q true st') : wpS (model prog w) A E s (mergeAt' i) Q st := by
  rcases st with ⟨kd, ar, pn, gl, fl⟩
  have ek : kd = κ := h0.k
  have ea : ar = ((P ++ X ++ Y ++ Z).map (kas_item it)).toArray := h0.a
  have ep : pn = pd := h0.p
  have ef : fl = none := h0.f
  subst ek ea ep ef
  refine wpS_bind (wpS_get ?_)
  have hL : ∀ j, j < Y.length -> (P ++ X ++ Y ++ Z).getD (P.length + X.length + j) 0 = Y.getD j 0 := fun j hj => by
    rw [List.getD_eq_getElem?_getD, List.getD_eq_getElem?_getD, List.append_assoc, List.append_assoc, List.getElem?_append_right (by omega), List.getElem?_append_right (by omega), List.getElem?_append_left (by omega)]
    congr 2
    omega
  have hL2 : ∀ j, j < X.length -> (P ++ X ++ Y ++ Z).getD (P.length + j) 0 = X.getD j 0 := fun j hj => by
    rw [List.getD_eq_getElem?_getD, List.getD_eq_getElem?_getD, List.append_assoc, List.append_assoc, List.getElem?_append_right (by omega), List.getElem?_append_left (by omega)]
    congr 2
    omega
  have ll : (P ++ X ++ Y ++ Z).length = P.length + X.length + Y.length + Z.length := by simp; omega
  have gE : ∀ (L : List Nat) (i : Nat) (h : i < L.length), L[i] = L.getD i 0 := fun L i h => by rw [List.getD_eq_getElem?_getD, List.getElem?_eq_getElem h]; rfl
  have xN : ∀ x ∈ X, x < N := fun x hx => lN x (by simp [hx])
  have yN : ∀ x ∈ Y, x < N := fun x hx => lN x (by simp [hx])
  dsimp only
  rw [p1, p2]
  dsimp only
  refine wpS_bind (wpS_put ?_)
  refine wpS_bind (el_of (show P.length + X.length < (P ++ X ++ Y ++ Z).length by omega) ?_)
  have y0 : (P ++ X ++ Y ++ Z)[P.length + X.length]'(by omega) = Y[0] := by
    rw [gE, gE, <- hL 0 hY, Nat.add_zero]
  rw [y0]
  refine wpS_bind (gallopS_ok c o (by exact h0.k) (yN _ (List.getElem_mem _)) lN (by omega) hL2 hX sX fun k k1 k2 k3 => ?_)
  dsimp only
  have X1 : ∀ x ∈ X.take k, Le lt x Y[0] := fun x hx => by
    have := k2 x hx
    unfold Bey at this
    rw [if_neg (by decide)] at this
    simpa using this
  have X2 : ∀ x ∈ X.drop k, Le lt Y[0] x := fun x hx => by
    have := k3 x hx
    unfold Bey at this
    rw [if_neg (by decide)] at this
    exact o.as _ _ (by simpa using this)
  have Y0 : ∀ y ∈ Y, Le lt Y[0] y := fun y hy => head_le o sY hY y (by simpa using hy)
  by_cases f1 : X.length - k = 0
  · refine wp_yes (by simp [f1]) (wpS_pure (h _ (X ++ Y) ⟨h0.k, ?_, ?_, h0.f⟩ (List.Perm.refl _) ?_))
    · rw [<- List.append_assoc]
    · rfl
    · refine List.pairwise_append.mpr ⟨sX, sY, fun x hx y hy => Le.tr o (X1 x ?_) (Y0 y hy)⟩
      rw [List.take_of_length_le (by omega)]
      exact hx
  refine wp_no (by simpa using f1) ?_
  have kl : k < X.length := by omega
  refine wpS_bind (el_of (show P.length + k + (X.length - k) - 1 < (P ++ X ++ Y ++ Z).length by omega) ?_)
  have xl : (P ++ X ++ Y ++ Z)[P.length + k + (X.length - k) - 1]'(by omega) = X[X.length - 1] := by
    rw [gE, gE, <- hL2 (X.length - 1) (by omega)]
    congr 1
    omega
  rw [xl]
  refine wpS_bind (gallopS_ok c o (by exact h0.k) (xN _ (List.getElem_mem _)) lN (by omega) hL (show Y.length - 1 < Y.length by omega) sY fun m m1 m2 m3 => ?_)
  dsimp only
  have Y1 : ∀ y ∈ Y.take m, Le lt y X[X.length - 1] := fun y hy => by
    have := m2 y hy
    unfold Bey at this
    rw [if_pos rfl] at this
    exact o.as _ _ this
  have Y2 : ∀ y ∈ Y.drop m, Le lt X[X.length - 1] y := fun y hy => by
    have := m3 y hy
    unfold Bey at this
    rw [if_pos rfl] at this
    exact this
  have XL : ∀ x ∈ X, Le lt x X[X.length - 1] := fun x hx => last_ge o sX hX (Nat.le_refl _) x (by simpa using hx)
  by_cases f2 : m = 0
  · refine wp_yes (by simp [f2]) (wpS_pure (h _ (X ++ Y) ⟨h0.k, ?_, ?_, h0.f⟩ (List.Perm.refl _) ?_))
    · rw [<- List.append_assoc]
    · rfl
    · refine List.pairwise_append.mpr ⟨sX, sY, fun x hx y hy => Le.tr o (XL x hx) (Y2 y ?_)⟩
      rw [f2]
      exact hy
  refine wp_no (by simpa using f2) ?_
  have xe : ((P ++ X ++ Y ++ Z).map (kas_item it)).toArray.extract (P.length + k) (P.length + X.length) = ((X.drop k).map (kas_item it)).toArray := by
    have e : P ++ X ++ Y ++ Z = (P ++ X.take k) ++ X.drop k ++ (Y ++ Z) := by
      simp only [List.append_assoc]
      rw [<- List.append_assoc (X.take k), List.take_append_drop]
    rw [e]
    exact mid_of _ _ _ _ _ _ (by rw [List.length_append, List.length_take]; omega) (by rw [List.length_append, List.length_take, List.length_drop]; omega)
  have ye : ((P ++ X ++ Y ++ Z).map (kas_item it)).toArray.extract (P.length + X.length) (P.length + X.length + m) = ((Y.take m).map (kas_item it)).toArray := by
    have e : P ++ X ++ Y ++ Z = (P ++ X) ++ Y.take m ++ (Y.drop m ++ Z) := by
      simp only [List.append_assoc]
      rw [<- List.append_assoc (Y.take m), List.take_append_drop]
    rw [e]
    exact mid_of _ _ _ _ _ _ (by rw [List.length_append]) (by rw [List.length_append, List.length_take]; omega)
  rw [xe, ye]
  have dl : (X.drop k).length = X.length - k := List.length_drop
  have tl : (Y.take m).length = m := by rw [List.length_take]; omega
  have t0 : (Y.take m)[0]'(by omega) = Y[0] := List.getElem_take
  have d9 : (X.drop k)[(X.drop k).length - 1]'(by omega) = X[X.length - 1] := by
    rw [List.getElem_drop]
    congr 1
    omega
  have fin : ∀ (res : Array Keyed) (st' : SortSt), Gs (SortSt.mk' kd ((P ++ X ++ Y ++ Z).map (kas_item it)).toArray ((pn.setIfInBounds i (P.length, X.length + Y.length, pw)).eraseIdxIfInBounds (i + 1)) gl none) st' -> Told lt it (X.drop k) (Y.take m) res ->
      wpS (model prog w) A E s (modify (fun s => SortSt.mk' (kindOf s) (res.toList.zipIdx.foldl (fun (a : Array Keyed) (x : Keyed × Nat) => match x with | (p, j) => a.setIfInBounds (P.length + k + j) p) (arrOf s)) (pendingOf s) (gallopOf s) (failedOf s)) >>= fun _ => get >>= fun s => pure (failedOf s).isNone) Q st' := by
    intro res st' g ⟨M, eM, pM, sM⟩
    rcases st' with ⟨kd', ar', pn', gl', fl'⟩
    obtain ⟨g1, g2, g3, g4⟩ := g
    have q1 : kd' = kd := g1
    have q2 : ar' = ((P ++ X ++ Y ++ Z).map (kas_item it)).toArray := g2
    have q3 : pn' = (pn.setIfInBounds i (P.length, X.length + Y.length, pw)).eraseIdxIfInBounds (i + 1) := g3
    have q4 : fl' = none := g4
    subst q1 q2 q3 q4
    refine wpS_bind (wpS_modify (wpS_bind (wpS_get (wpS_pure ?_))))
    refine h _ (X.take k ++ M ++ Y.drop m) ⟨rfl, ?_, rfl, rfl⟩ ?_ ?_
    · show res.toList.zipIdx.foldl _ ((P ++ X ++ Y ++ Z).map (kas_item it)).toArray = _
      have e : (P ++ X ++ Y ++ Z).map (kas_item it) = (P ++ X.take k).map (kas_item it) ++ (X.drop k ++ Y.take m).map (kas_item it) ++ (Y.drop m ++ Z).map (kas_item it) := by
        rw [<- List.map_append, <- List.map_append]
        congr 1
        simp only [List.append_assoc]
        rw [<- List.append_assoc (X.take k), List.take_append_drop, <- List.append_assoc (Y.take m), List.take_append_drop]
      rw [eM, e]
      have := set_go (P.length + k) (M.map (kas_item it)) ((P ++ X.take k).map (kas_item it)) ((X.drop k ++ Y.take m).map (kas_item it)) ((Y.drop m ++ Z).map (kas_item it)) 0 (by rw [List.length_map, List.length_append, List.length_take]; omega) (by rw [List.length_map, List.length_map, pM.length_eq])
      refine Eq.trans this ?_
      congr 1
      rw [<- List.map_append, <- List.map_append]
      congr 1
      simp only [List.append_assoc]
    · have : (X.take k ++ M ++ Y.drop m).Perm (X.take k ++ (X.drop k ++ Y.take m) ++ Y.drop m) := List.Perm.append_right _ (List.Perm.append_left _ pM)
      refine this.trans ?_
      rw [<- List.append_assoc, List.take_append_drop, List.append_assoc, List.take_append_drop]
    · have hM : ∀ z ∈ M, z ∈ X.drop k \/ z ∈ Y.take m := fun z hz => List.mem_append.mp (pM.mem_iff.mp hz)
      have sY' : (Y.take m ++ Y.drop m).Pairwise (Le lt) := by rw [List.take_append_drop]; exact sY
      have sX' : (X.take k ++ X.drop k).Pairwise (Le lt) := by rw [List.take_append_drop]; exact sX
      refine List.pairwise_append.mpr ⟨List.pairwise_append.mpr ⟨sX.sublist (List.take_sublist _ _), sM, fun x hx z hz => ?_⟩, sY.sublist (List.drop_sublist _ _), fun z hz y hy => ?_⟩
      · rcases hM z hz with hz | hz
        · exact (List.pairwise_append.mp sX').2.2 x hx z hz
        · exact Le.tr o (X1 x hx) (Y0 z (List.mem_of_mem_take hz))
      · rcases List.mem_append.mp hz with hz | hz
        · exact Le.tr o (XL z (List.mem_of_mem_take hz)) (Y2 y hy)
        · rcases hM z hz with hz | hz
          · exact Le.tr o (XL z (List.mem_of_mem_drop hz)) (Y2 y hy)
          · exact (List.pairwise_append.mp sY').2.2 z hz y hy
  refine wp_ite (fun _ => ?_) (fun _ => ?_)
  · refine wpS_bind (mergeLo_ok c o (by exact h0.k) (fun x hx => xN x (List.mem_of_mem_drop hx)) (fun x hx => yN x (List.mem_of_mem_take hx)) (sX.sublist (List.drop_sublist _ _)) (sY.sublist (List.take_sublist _ _)) (by omega) (by omega) ?_ ?_ fun res st' g tt => ?_)
    · rw [t0]; exact X2
    · intro x hx y hy
      have e : (X.drop k).drop ((X.drop k).length - 1) = [X[X.length - 1]] := by
        rw [List.drop_eq_getElem_cons (show (X.drop k).length - 1 < (X.drop k).length by omega), d9]
        congr 1
        exact List.drop_eq_nil_of_le (by omega)
      rw [e] at hy
      rw [List.mem_singleton.mp hy]
      exact Y1 x hx
    · exact fin res st' g tt
  · refine wpS_bind (mergeHi_ok c o (by exact h0.k) (fun x hx => xN x (List.mem_of_mem_drop hx)) (fun x hx => yN x (List.mem_of_mem_take hx)) (sX.sublist (List.drop_sublist _ _)) (sY.sublist (List.take_sublist _ _)) (by omega) (by omega) ?_ ?_ fun res st' g tt => ?_)
    · rw [t0]; exact X2
    · rw [d9]; exact Y1
    · exact fin res st' g tt
end
end L2
namespace L2
open PySem PySem.W PyProof.Rows
section
variable {prog : Program} {w : World} {A : Around} {E : Value -> Shared -> Prop} {s : Shared} {κ : SortKind} {it : Array Keyed} {lt : Nat -> Nat -> Bool} {N : Nat}
structure StP (κ : SortKind) (it : Array Keyed) (st : SortSt) (p : Array Nat) (pd : Array (Nat × Nat × Nat)) : Prop where
  k : kindOf st = κ
  a : arrOf st = p.map (kas_item it)
  p : pendingOf st = pd
  f : failedOf st = none
def UpF (lt : Nat -> Nat -> Bool) (p : Array Nat) (lo n : Nat) : Prop := ∀ i j, lo <= i -> i <= j -> j < lo + n -> lt (p.getD j 0) (p.getD i 0) = false
theorem ltAt_ok {i j : Nat} {p : Array Nat} {pd : Array (Nat × Nat × Nat)} {st : SortSt} {Q : Option Bool -> SortSt -> Prop} (c : Cmp prog w A κ it lt N s) (B : PB N p) (S : StP κ it st p pd) (hi : i < N) (hj : j < N) (h : Q (some (lt (p.getD i 0) (p.getD j 0))) st) : wpS (model prog w) A E s (ltAt' i j) Q st := by
  rw [ltAt'_eq]
  refine wpS_bind (wpS_get ?_)
  show wpS _ _ _ _ (elem' (arrOf st) i >>= fun x => elem' (arrOf st) j >>= fun y => lt' x y) Q st
  rw [S.a]
  refine wpS_bind (elem_of (by rw [B.size]; exact hi) (wpS_bind (elem_of (by rw [B.size]; exact hj) ?_)))
  exact lt_of c S.k (B.lt hi) (B.lt hj) h
theorem move_ok {k l : Nat} {p : Array Nat} {pd : Array (Nat × Nat × Nat)} {st : SortSt} {Q : Unit -> SortSt -> Prop} (S : StP κ it st p pd) (h : ∀ st', StP κ it st' (bubble p k (k - l)) pd -> Q () st') : wpS (model prog w) A E s (moveDown' k l) Q st := by
  rw [moveDown'_eq]
  refine wpS_modify (h _ ⟨S.k, ?_, S.p, S.f⟩)
  show bubble (arrOf st) k (k - l) = _
  rw [S.a]
  exact kas_swaps_map (kas_item it) (fun i => k - i) (fun i => k - i - 1) _ p
theorem rev_ok {i j : Nat} {p : Array Nat} {pd : Array (Nat × Nat × Nat)} {st : SortSt} {Q : Unit -> SortSt -> Prop} (S : StP κ it st p pd) (h : ∀ st', StP κ it st' (kas_rev p i j) pd -> Q () st') : wpS (model prog w) A E s (reverseSlice' i j) Q st := by
  rw [reverseSlice'_eq]
  refine wpS_modify (h _ ⟨S.k, ?_, S.p, S.f⟩)
  show mirror (arrOf st) i j ((j - i) / 2) = _
  rw [S.a]
  exact kas_swaps_map (kas_item it) (fun k => i + k) (fun k => j - 1 - k) _ p
theorem ins_up (o : Ord lt) {p : Array Nat} {lo k l : Nat} (B : PB N p) (hk : lo + k < N) (hl : l <= k) (h : UpF lt p lo k) (h1 : ∀ i, i < l -> Le lt (p.getD (lo + i) 0) (p.getD (lo + k) 0)) (h2 : ∀ i, l <= i -> i < k -> Le lt (p.getD (lo + k) 0) (p.getD (lo + i) 0)) :
    UpF lt (bubble p (lo + k) (lo + k - (lo + l))) lo (k + 1) := by
  intro i j hi hij hj
  rw [bub_at B hk (by omega), bub_at B hk (by omega)]
  by_cases a : j = lo + l
  · rw [if_pos a]
    by_cases b : i = lo + l
    · rw [if_pos b]; exact o.rf _
    · rw [if_neg b, if_neg (by omega)]
      have := h1 (i - lo) (by omega)
      rw [show lo + (i - lo) = i by omega] at this
      exact this
  · rw [if_neg a]
    by_cases b : lo + l < j /\ j <= lo + k
    · rw [if_pos b]
      by_cases d : i = lo + l
      · rw [if_pos d]
        have := h2 (j - 1 - lo) (by omega) (by omega)
        rw [show lo + (j - 1 - lo) = j - 1 by omega] at this
        exact this
      · rw [if_neg d]
        by_cases e : lo + l < i /\ i <= lo + k
        · rw [if_pos e]; exact h _ _ (by omega) (by omega) (by omega)
        · rw [if_neg e]; exact h _ _ (by omega) (by omega) (by omega)
    · rw [if_neg b]
      rw [if_neg (by omega), if_neg (by omega)]
      exact h _ _ hi hij (by omega)
theorem binary_ok {lo n ok : Nat} {p : Array Nat} {pd : Array (Nat × Nat × Nat)} {st : SortSt} {Q : Bool -> SortSt -> Prop} (c : Cmp prog w A κ it lt N s) (o : Ord lt) (B : PB N p) (S : StP κ it st p pd) (hn : lo + n <= N) (h1 : 1 <= n) (hok : ok <= n) (u : UpF lt p lo ok)
    (h : ∀ st' p', StP κ it st' p' pd -> PB N p' -> UpF lt p' lo n -> (∀ i, i < lo -> p'.getD i 0 = p.getD i 0) -> Q true st') : wpS (model prog w) A E s (binarySort' lo n ok) Q st := by
  refine wpS_bind (wpS_mono (wpS_forRange
    (I := fun k r st' => r = (none, ()) /\ ∃ p', StP κ it st' p' pd /\ PB N p' /\ UpF lt p' lo k /\ (∀ i, i < lo -> p'.getD i 0 = p.getD i 0))
    (Q := fun r st' => r = (none, ()) /\ ∃ p', StP κ it st' p' pd /\ PB N p' /\ UpF lt p' lo n /\ (∀ i, i < lo -> p'.getD i 0 = p.getD i 0)) ?_ ?_ ⟨rfl, p, S, B, ?_, fun _ _ => rfl⟩) ?_)
  · rintro k r st' hk1 hk2 ⟨rfl, p', S', B', u', e'⟩
    refine wpS_bind (wpS_mono (wpS_forRange
      (I := fun x r st'' => st'' = st' /\ ∃ l m, r = (none, l, m) /\ l <= m /\ m <= k /\ m - l + x <= k /\ (∀ i, i < l -> Le lt (p'.getD (lo + i) 0) (p'.getD (lo + k) 0)) /\ (∀ i, m <= i -> i < k -> Le lt (p'.getD (lo + k) 0) (p'.getD (lo + i) 0)))
      (Q := fun r st'' => st'' = st' /\ ∃ l m, r = (none, l, m) /\ l <= k /\ (∀ i, i < l -> Le lt (p'.getD (lo + i) 0) (p'.getD (lo + k) 0)) /\ (∀ i, l <= i -> i < k -> Le lt (p'.getD (lo + k) 0) (p'.getD (lo + i) 0))) ?_ ?_ ⟨rfl, 0, k, rfl, by omega, by omega, by omega, fun i hi => absurd hi (by omega), fun i h1 h2 => absurd h1 (by omega)⟩) ?_)
    · rintro x r st'' _ hx ⟨rfl, l, m, rfl, l1, l2, l3, l4, l5⟩
      dsimp only
      by_cases e : l >= m
      · refine wp_yes e (wpS_pure ⟨rfl, l, m, rfl, by omega, l4, fun i h1 h2 => l5 i (by omega) h2⟩)
      refine wp_no e (wpS_bind (ltAt_ok c B' S' (by omega) (by omega) ?_))
      cases z : lt (p'.getD (lo + k) 0) (p'.getD (lo + (l + m) / 2) 0) with
      | true =>
        dsimp only
        refine wp_yes rfl (wpS_pure ⟨rfl, l, (l + m) / 2, rfl, by omega, by omega, by omega, l4, fun i h1 h2 => Le.tr o (o.as _ _ z) (u' _ _ (by omega) (by omega) (by omega))⟩)
      | false =>
        dsimp only
        refine wp_no (by decide) (wpS_pure ⟨rfl, (l + m) / 2 + 1, m, rfl, by omega, by omega, by omega, fun i hi => Le.tr o (u' _ _ (by omega) (by omega) (by omega)) z, l5⟩)
    · rintro r st'' ⟨rfl, l, m, rfl, l1, l2, l3, l4, l5⟩
      exact ⟨rfl, l, m, rfl, by omega, l4, fun i h1 h2 => l5 i (by omega) h2⟩
    · rintro r st'' ⟨rfl, l, m, rfl, l1, l4, l5⟩
      dsimp only
      refine wpS_bind (move_ok S' fun st3 S3 => wpS_pure ⟨rfl, _, S3, B'.bub _ _, ins_up o B' (by omega) l1 u' l4 l5, fun i hi => ?_⟩)
      rw [bub_at B' (by omega) (by omega), if_neg (by omega), if_neg (by omega)]
      exact e' i hi
  · rintro r st' ⟨rfl, p', S', B', u', e'⟩
    exact ⟨rfl, p', S', B', by rw [show max (max ok 1) n = n by omega] at u'; exact u', e'⟩
  · intro i j hi hij hj
    by_cases e : i = j
    · subst e; exact o.rf _
    · exact u i j hi hij (by omega)
  · rintro r st' ⟨rfl, p', S', B', u', e'⟩
    exact wpS_pure (h st' p' S' B' u' e')
end
end L2
namespace L2
open PySem PySem.W PyProof.Rows
section
variable {prog : Program} {w : World} {A : Around} {E : Value -> Shared -> Prop} {s : Shared} {κ : SortKind} {it : Array Keyed} {lt : Nat -> Nat -> Bool} {N : Nat}
def DownF (lt : Nat -> Nat -> Bool) (p : Array Nat) (lo n : Nat) : Prop := ∀ i j, lo <= i -> i <= j -> j < lo + n -> lt (p.getD i 0) (p.getD j 0) = false
theorem up_moreF (o : Ord lt) {p : Array Nat} {lo n : Nat} (h : UpF lt p lo n) (n1 : 1 <= n) (c : lt (p.getD (lo + n) 0) (p.getD (lo + n - 1) 0) = false) : UpF lt p lo (n + 1) := by
  intro i j hi hij hj
  by_cases e : j = lo + n
  · subst e
    by_cases e2 : i = lo + n
    · subst e2; exact o.rf _
    · exact o.tr _ _ _ (h i (lo + n - 1) hi (by omega) (by omega)) c
  · exact h i j hi hij (by omega)
theorem down_moreF (o : Ord lt) {p : Array Nat} {lo n : Nat} (h : DownF lt p lo n) (n1 : 1 <= n) (c : lt (p.getD (lo + n - 1) 0) (p.getD (lo + n) 0) = false) : DownF lt p lo (n + 1) := by
  intro i j hi hij hj
  by_cases e : j = lo + n
  · subst e
    by_cases e2 : i = lo + n
    · subst e2; exact o.rf _
    · exact o.tr _ _ _ c (h i (lo + n - 1) hi (by omega) (by omega))
  · exact h i j hi hij (by omega)
theorem down_flatF {p : Array Nat} (B : PB N p) {lo n q : Nat} (hn : lo + n <= N) (hq : q + 1 <= n) (h : DownF lt p lo n) (fl : Flat lt p (lo + n - (q + 1)) (lo + n)) : DownF lt (kas_rev p (lo + n - (q + 1)) (lo + n)) lo n := by
  intro i j hi hij hj
  rw [rev_at B hn, rev_at B hn]
  by_cases c1 : lo + n - (q + 1) <= i /\ i < lo + n
  · rw [if_pos c1, if_pos (by omega)]
    exact fl _ _ (by omega) (by omega) (by omega) (by omega)
  · rw [if_neg c1]
    by_cases c2 : lo + n - (q + 1) <= j /\ j < lo + n
    · rw [if_pos c2]
      exact h _ _ hi (by omega) (by omega)
    · rw [if_neg c2]
      exact h _ _ hi hij hj
theorem down_revF {p : Array Nat} (B : PB N p) {lo n : Nat} (hn : lo + n <= N) (h : DownF lt p lo n) : UpF lt (kas_rev p lo (lo + n)) lo n := by
  intro i j hi hij hj
  rw [rev_at B hn, rev_at B hn, if_pos (by omega), if_pos (by omega)]
  exact h _ _ (by omega) (by omega) (by omega)
theorem count_ok {lo nrem : Nat} {p : Array Nat} {pd : Array (Nat × Nat × Nat)} {st : SortSt} {Q : Option Nat -> SortSt -> Prop} (c : Cmp prog w A κ it lt N s) (o : Ord lt) (B : PB N p) (S : StP κ it st p pd) (hn : lo + nrem <= N) (h1 : 1 <= nrem)
    (h : ∀ st' p' n, StP κ it st' p' pd -> PB N p' -> 1 <= n -> n <= nrem -> UpF lt p' lo n -> (∀ i, i < lo -> p'.getD i 0 = p.getD i 0) -> Q (some n) st') : wpS (model prog w) A E s (countRun' lo nrem) Q st := by
  refine wpS_bind (wpS_mono (wpS_forRange
    (I := fun x r st' => st' = st /\ r = (none, x) /\ UpF lt p lo x)
    (Q := fun r st' => st' = st /\ ∃ n, r = (none, n) /\ 1 <= n /\ n <= nrem /\ UpF lt p lo n /\ (n = nrem \/ lt (p.getD (lo + n) 0) (p.getD (lo + n - 1) 0) = true)) ?_ ?_ ⟨rfl, rfl, ?_⟩) ?_)
  · rintro x r st' hx1 hx2 ⟨rfl, rfl, u⟩
    refine wpS_bind (ltAt_ok c B S (by omega) (by omega) ?_)
    cases z : lt (p.getD (lo + x) 0) (p.getD (lo + x - 1) 0) with
    | true =>
      dsimp only
      exact wp_yes rfl (wpS_pure ⟨rfl, x, rfl, hx1, by omega, u, .inr z⟩)
    | false =>
      dsimp only
      exact wp_no (by decide) (wpS_pure ⟨rfl, rfl, up_moreF o u hx1 z⟩)
  · rintro r st' ⟨rfl, rfl, u⟩
    rw [show max 1 nrem = nrem by omega] at u ⊢
    exact ⟨rfl, nrem, rfl, h1, Nat.le_refl _, u, .inl rfl⟩
  · intro i j hi hij hj
    have : i = j := by omega
    subst this; exact o.rf _
  rintro r st' ⟨rfl, n, rfl, n1, n2, u, fin⟩
  dsimp only
  by_cases e1 : n = nrem
  · exact wp_yes (by simp [e1]) (wpS_pure (h _ p n S B n1 n2 u fun _ _ => rfl))
  refine wp_no (by simpa using e1) ?_
  have z : lt (p.getD (lo + n) 0) (p.getD (lo + n - 1) 0) = true := fin.resolve_left e1
  have zz := o.as _ _ z
  have K0 : ∀ i, i < lo -> p.getD i 0 = p.getD i 0 := fun _ _ => rfl
  have hl : n < nrem := by omega
  by_cases m : n > 1
  case' pos =>
    refine wp_yes m (wpS_bind (ltAt_ok c B S (by omega) (by omega) ?_))
    by_cases rz : lt (p.getD lo 0) (p.getD (lo + n - 1) 0) = true
    · rw [rz]
      dsimp only
      exact wp_yes rfl (wpS_pure (h _ p n S B n1 n2 u fun _ _ => rfl))
    have rz' : lt (p.getD lo 0) (p.getD (lo + n - 1) 0) = false := by simpa using rz
    rw [rz']
    dsimp only
    refine wp_no (by decide) (wpS_bind (rev_ok S fun st2 S2 => ?_))
    have fl : ∀ i j, lo <= i -> i < lo + n -> lo <= j -> j < lo + n -> lt (p.getD i 0) (p.getD j 0) = false := fun i j i0 i1 j0 j1 =>
      Le.tr o (Le.tr o (u j (lo + n - 1) j0 (by omega) (by omega)) rz') (u lo i (by omega) (by omega) (by omega))
    have B2 := B.rev lo (lo + n)
    have D2 : DownF lt (kas_rev p lo (lo + n)) lo (n + 1) := by
      intro i j hi hij hj
      rw [rev_at B (by omega), rev_at B (by omega)]
      by_cases e : j = lo + n
      · subst e
        rw [if_neg (show ¬ (lo <= lo + n /\ lo + n < lo + n) by omega)]
        by_cases e2 : i = lo + n
        · subst e2
          rw [if_neg (by omega)]
          exact o.rf _
        · rw [if_pos (by omega)]
          exact Le.tr o zz (fl _ _ (by omega) (by omega) (by omega) (by omega))
      · rw [if_pos (by omega), if_pos (by omega)]
        exact fl _ _ (by omega) (by omega) (by omega) (by omega)
    have K2 : ∀ i, i < lo -> (kas_rev p lo (lo + n)).getD i 0 = p.getD i 0 := fun i hi => by rw [rev_at B (by omega), if_neg (by omega)]
    generalize kas_rev p lo (lo + n) = p2 at S2 B2 D2 K2
  case' neg =>
    refine wp_no m ?_
    have B2 := B
    have S2 := S
    have K2 := K0
    have D2 : DownF lt p lo (n + 1) := down_moreF o (fun i j hi hij hj => by
      have : i = j := by omega
      subst this; exact o.rf _) n1 zz
    obtain ⟨st2, est2⟩ : ∃ st2, st2 = st' := ⟨_, rfl⟩
    obtain ⟨p2, ep2⟩ : ∃ p2, p2 = p := ⟨_, rfl⟩
    rw [<- est2] at S2 ⊢
    rw [<- ep2] at S2 B2 D2
    have K2 : ∀ i, i < lo -> p2.getD i 0 = p.getD i 0 := fun i _ => by rw [ep2]
  all_goals
    refine wpS_bind (wpS_lift (wpAny_rule ⟨rfl, ?_⟩))
    refine wpS_bind (wpS_mono (wpS_forRange
      (I := fun x r st3 => ∃ q p3, r = (none, x, q) /\ StP κ it st3 p3 pd /\ PB N p3 /\ DownF lt p3 lo x /\ q + 1 <= x /\ Flat lt p3 (lo + x - (q + 1)) (lo + x) /\ (∀ i, i < lo -> p3.getD i 0 = p.getD i 0))
      (Q := fun r st3 => ∃ x q p3, r = (none, x, q) /\ 1 <= x /\ x <= nrem /\ StP κ it st3 p3 pd /\ PB N p3 /\ DownF lt p3 lo x /\ q + 1 <= x /\ Flat lt p3 (lo + x - (q + 1)) (lo + x) /\ (∀ i, i < lo -> p3.getD i 0 = p.getD i 0)) ?_ ?_ ⟨0, p2, rfl, S2, B2, D2, by omega, ?_, K2⟩) ?_)
    · rintro x r st3 hx1 hx2 ⟨q, p3, rfl, S3, B3, D3, q1, F3, K3⟩
      dsimp only
      refine wpS_bind (ltAt_ok c B3 S3 (by omega) (by omega) ?_)
      by_cases y1 : lt (p3.getD (lo + x) 0) (p3.getD (lo + x - 1) 0) = true
      · rw [y1]
        dsimp only
        refine wp_yes rfl ?_
        have y2 := o.as _ _ y1
        by_cases q0 : q > 0
        · refine wp_yes q0 (wpS_bind (rev_ok S3 fun st4 S4 => wpS_pure ⟨0, _, rfl, S4, B3.rev _ _, ?_, by omega, fun i j i1 i2 j1 j2 => ?_, fun i hi => ?_⟩))
          · have en : (kas_rev p3 (lo + x - (q + 1)) (lo + x)).getD (lo + x) 0 = p3.getD (lo + x) 0 := by rw [rev_at B3 (by omega), if_neg (by omega)]
            have el : (kas_rev p3 (lo + x - (q + 1)) (lo + x)).getD (lo + x - 1) 0 = p3.getD (lo + x - (q + 1)) 0 := by
              rw [rev_at B3 (by omega), if_pos (by omega)]
              congr 1
              omega
            refine down_moreF o (down_flatF B3 (by omega) q1 D3 F3) (by omega) ?_
            rw [en, el]
            exact Le.tr o y2 (F3 _ _ (by omega) (by omega) (by omega) (by omega))
          · have : i = j := by omega
            subst this; exact o.rf _
          · rw [rev_at B3 (by omega), if_neg (by omega)]; exact K3 i hi
        · refine wp_no q0 (wpS_pure ⟨0, p3, rfl, S3, B3, down_moreF o D3 (by omega) y2, by omega, fun i j i1 i2 j1 j2 => ?_, K3⟩)
          have : i = j := by omega
          subst this; exact o.rf _
      · have y1' : lt (p3.getD (lo + x) 0) (p3.getD (lo + x - 1) 0) = false := by simpa using y1
        rw [y1']
        dsimp only
        refine wp_no (by decide) (wpS_bind (ltAt_ok c B3 S3 (by omega) (by omega) ?_))
        by_cases y2 : lt (p3.getD (lo + x - 1) 0) (p3.getD (lo + x) 0) = true
        · rw [y2]
          dsimp only
          exact wp_yes rfl (wpS_pure ⟨x, q, p3, rfl, by omega, by omega, S3, B3, D3, q1, F3, K3⟩)
        · have y2' : lt (p3.getD (lo + x - 1) 0) (p3.getD (lo + x) 0) = false := by simpa using y2
          rw [y2']
          dsimp only
          refine wp_no (by decide) (wpS_pure ⟨q + 1, p3, rfl, S3, B3, down_moreF o D3 (by omega) y2', by omega, fun i j i1 i2 j1 j2 => ?_, K3⟩)
          have fi : ∀ k, lo + (x + 1) - (q + 1 + 1) <= k -> k < lo + (x + 1) -> Le lt (p3.getD k 0) (p3.getD (lo + x - 1) 0) /\ Le lt (p3.getD (lo + x - 1) 0) (p3.getD k 0) := fun k k1 k2 => by
            by_cases ek : k = lo + x
            · rw [ek]; exact ⟨y2', y1'⟩
            · exact ⟨F3 _ _ (by omega) (by omega) (by omega) (by omega), F3 _ _ (by omega) (by omega) (by omega) (by omega)⟩
          exact Le.tr o (fi j j1 j2).1 (fi i i1 i2).2
    · rintro r st3 ⟨q, p3, rfl, S3, B3, D3, q1, F3, K3⟩
      rw [show max (n + 1) nrem = nrem by omega] at D3 q1 F3 ⊢
      exact ⟨nrem, q, p3, rfl, h1, Nat.le_refl _, S3, B3, D3, q1, F3, K3⟩
    · intro i j i1 i2 j1 j2
      have : i = j := by omega
      subst this; exact o.rf _
    rintro r st3 ⟨x, q, p3, rfl, x1, x2, S3, B3, D3, q1, F3, K3⟩
    dsimp only
    by_cases q0 : q > 0
    case' pos =>
      refine wp_yes q0 (wpS_bind (rev_ok S3 fun st4 S4 => ?_))
      have D4 := down_flatF B3 (by omega) q1 D3 F3
      have B4 := B3.rev (lo + x - (q + 1)) (lo + x)
      have K4 : ∀ i, i < lo -> (kas_rev p3 (lo + x - (q + 1)) (lo + x)).getD i 0 = p.getD i 0 := fun i hi => by rw [rev_at B3 (by omega), if_neg (by omega)]; exact K3 i hi
      generalize kas_rev p3 (lo + x - (q + 1)) (lo + x) = p4 at S4 D4 B4 K4
    case' neg =>
      refine wp_no q0 ?_
      have D4 := D3
      have B4 := B3
      have K4 := K3
      have S4 := S3
      generalize p3 = p4 at S4 D4 B4 K4
      generalize st3 = st4 at S4 ⊢
    all_goals
      refine wpS_bind (rev_ok S4 fun st5 S5 => ?_)
      have U5 := down_revF B4 (by omega) D4
      have B5 := B4.rev lo (lo + x)
      have K5 : ∀ i, i < lo -> (kas_rev p4 lo (lo + x)).getD i 0 = p.getD i 0 := fun i hi => by rw [rev_at B4 (by omega), if_neg (by omega)]; exact K4 i hi
      generalize kas_rev p4 lo (lo + x) = p5 at S5 U5 B5 K5
      refine wpS_bind (wpS_mono (wpS_forRange
        (I := fun y r st' => st' = st5 /\ r = (none, y) /\ UpF lt p5 lo y)
        (Q := fun r st' => st' = st5 /\ ∃ n, r = (none, n) /\ 1 <= n /\ n <= nrem /\ UpF lt p5 lo n) ?_ ?_ ⟨rfl, rfl, U5⟩) ?_)
      · rintro y r st' hy1 hy2 ⟨rfl, rfl, u⟩
        refine wpS_bind (ltAt_ok c B5 S5 (by omega) (by omega) ?_)
        cases z : lt (p5.getD (lo + y) 0) (p5.getD (lo + y - 1) 0) with
        | true =>
          dsimp only
          exact wp_yes rfl (wpS_pure ⟨rfl, y, rfl, by omega, by omega, u⟩)
        | false =>
          dsimp only
          exact wp_no (by decide) (wpS_pure ⟨rfl, rfl, up_moreF o u (by omega) z⟩)
      · rintro r st' ⟨rfl, rfl, u⟩
        rw [show max x nrem = nrem by omega] at u ⊢
        exact ⟨rfl, nrem, rfl, h1, Nat.le_refl _, u⟩
      · rintro r st' ⟨rfl, y, rfl, y1, y2, u⟩
        dsimp only
        exact wpS_pure (h _ p5 y S5 B5 y1 y2 u K5)
end
end L2
namespace L2
open PySem PySem.W PyProof.Rows
section
variable {prog : Program} {w : World} {A : Around} {E : Value -> Shared -> Prop} {s : Shared} {κ : SortKind} {it : Array Keyed} {lt : Nat -> Nat -> Bool} {N : Nat}
inductive Rn (lt : Nat -> Nat -> Bool) (p : Array Nat) : Nat -> List (Nat × Nat × Nat) -> Nat -> Prop
  | nil (a : Nat) : Rn lt p a [] a
  | cons {a n pw b : Nat} {ps : List (Nat × Nat × Nat)} (h0 : 0 < n) (u : UpF lt p a n) (t : Rn lt p (a + n) ps b) : Rn lt p a ((a, n, pw) :: ps) b
theorem Rn.le {p : Array Nat} {a b : Nat} {ps : List (Nat × Nat × Nat)} (h : Rn lt p a ps b) : a + ps.length <= b := by
  induction h with
  | nil => exact Nat.le_refl _
  | cons h0 _ _ ih => simp at ih ⊢; omega
theorem Rn.app {p : Array Nat} {a b c : Nat} {ps qs : List (Nat × Nat × Nat)} (h : Rn lt p a ps b) (h2 : Rn lt p b qs c) : Rn lt p a (ps ++ qs) c := by
  induction h with
  | nil => exact h2
  | cons h0 u _ ih => exact .cons h0 u (ih h2)
theorem Rn.cut {p : Array Nat} {c : Nat} {qs : List (Nat × Nat × Nat)} : ∀ {ps : List (Nat × Nat × Nat)} {a : Nat}, Rn lt p a (ps ++ qs) c -> ∃ b, Rn lt p a ps b /\ Rn lt p b qs c
  | [], a, h => ⟨a, .nil a, h⟩
  | x :: ps, a, h => by
    cases h with
    | cons h0 u t =>
      obtain ⟨b, h1, h2⟩ := Rn.cut t
      exact ⟨b, .cons h0 u h1, h2⟩
theorem UpF.same {p p' : Array Nat} {a n : Nat} (h : UpF lt p a n) (e : ∀ i, a <= i -> i < a + n -> p'.getD i 0 = p.getD i 0) : UpF lt p' a n := fun i j hi hij hj => by
  rw [e i hi (by omega), e j (by omega) hj]; exact h i j hi hij hj
theorem Rn.same {p p' : Array Nat} {a b : Nat} {ps : List (Nat × Nat × Nat)} (h : Rn lt p a ps b) (e : ∀ i, a <= i -> i < b -> p'.getD i 0 = p.getD i 0) : Rn lt p' a ps b := by
  induction h with
  | nil => exact .nil _
  | cons h0 u t ih =>
    have := t.le
    exact .cons h0 (u.same fun i h1 h2 => e i h1 (by omega)) (ih fun i h1 h2 => e i (by omega) h2)
theorem Rn.mod {p : Array Nat} {b : Nat} {f : Nat × Nat × Nat -> Nat × Nat × Nat} (hf : ∀ x, (f x).1 = x.1 /\ (f x).2.1 = x.2.1) : ∀ {ps : List (Nat × Nat × Nat)} {a : Nat} (k : Nat), Rn lt p a ps b -> Rn lt p a (ps.modify k f) b
  | [], a, k, h => by cases k <;> exact h
  | x :: ps, a, 0, h => by
    cases h with
    | cons h0 u t =>
      rename_i n pw
      obtain ⟨e1, e2⟩ := hf (a, n, pw)
      have e : f (a, n, pw) = (a, n, (f (a, n, pw)).2.2) := Prod.ext e1 (Prod.ext e2 rfl)
      show Rn lt p a (f (a, n, pw) :: ps) b
      rw [e]
      exact .cons h0 u t
  | x :: ps, a, k + 1, h => by
    cases h with
    | cons h0 u t => exact .cons h0 u (Rn.mod hf k t)
theorem Rn.at {p : Array Nat} {a b i : Nat} {ps : List (Nat × Nat × Nat)} (h : Rn lt p a ps b) (hi : i + 1 < ps.length) : ∃ ps1 sa na w1 nb w2 ps2, ps = ps1 ++ (sa, na, w1) :: (sa + na, nb, w2) :: ps2 /\ ps1.length = i := by
  have e : ps = ps.take i ++ ps.drop i := (List.take_append_drop _ _).symm
  rw [e] at h
  obtain ⟨c, _, h2⟩ := Rn.cut h
  rw [List.drop_eq_getElem_cons (show i < ps.length by omega), List.drop_eq_getElem_cons hi] at h2 e
  generalize hx : ps[i] = x at h2 e
  generalize hy : ps[i + 1] = y at h2 e
  cases h2 with
  | cons h0 u t =>
    cases t with
    | cons h0' u' t' => exact ⟨ps.take i, _, _, _, _, _, _, e, by rw [List.length_take]; omega⟩
theorem getD_toList (p : Array Nat) (i : Nat) : p.getD i 0 = p.toList.getD i 0 := by rw [Array.getD_eq_getD_getElem?, List.getD_eq_getElem?_getD, Array.getElem?_toList]
theorem up_slice {p : Array Nat} {a n : Nat} (u : UpF lt p a n) (h : a + n <= p.size) : ((p.toList.drop a).take n).Pairwise (Le lt) := by
  rw [List.pairwise_iff_getElem]
  intro i j hi hj hij
  rw [List.length_take, List.length_drop] at hi hj
  rw [List.getElem_take, List.getElem_take, List.getElem_drop, List.getElem_drop]
  have g : ∀ k (hk : k < p.toList.length), p.toList[k] = p.getD k 0 := fun k hk => by rw [getD_toList, List.getD_eq_getElem?_getD, List.getElem?_eq_getElem hk]; rfl
  rw [g, g]
  exact u _ _ (by omega) (by omega) (by omega)
theorem mergeAt_runs {i lo sa na w1 sb nb w2 : Nat} {ps1 ps2 : List (Nat × Nat × Nat)} {p : Array Nat} {pd : Array (Nat × Nat × Nat)} {st : SortSt} {Q : Bool -> SortSt -> Prop} (c : Cmp prog w A κ it lt N s) (o : Ord lt) (B : PB N p) (S : StP κ it st p pd) (hpd : pd.toList = ps1 ++ (sa, na, w1) :: (sb, nb, w2) :: ps2) (hi : ps1.length = i)
    (R : Rn lt p 0 pd.toList lo) (hlo : lo <= N) (h : ∀ st' p' pd', StP κ it st' p' pd' -> PB N p' -> pd'.toList = ps1 ++ (sa, na + nb, w1) :: ps2 -> Rn lt p' 0 pd'.toList lo -> (∀ j, lo <= j -> p'.getD j 0 = p.getD j 0) -> Q true st') : wpS (model prog w) A E s (mergeAt' i) Q st := by
  rw [hpd] at R
  obtain ⟨b, R1, R2⟩ := Rn.cut R
  cases R2 with
  | cons a0 ua t =>
    cases t with
    | cons b0 ub R3 =>
      have l3 := R3.le
      have ps : p.size = N := B.size
      have pl : p.toList.length = N := by rw [Array.length_toList, ps]
      generalize hP : p.toList.take sa = P
      generalize hX : (p.toList.drop sa).take na = X
      generalize hY : (p.toList.drop (sa + na)).take nb = Y
      generalize hZ : p.toList.drop (sa + na + nb) = Z
      have lP : P.length = sa := by rw [<- hP, List.length_take]; omega
      have lX : X.length = na := by rw [<- hX, List.length_take, List.length_drop]; omega
      have lY : Y.length = nb := by rw [<- hY, List.length_take, List.length_drop]; omega
      have eL : p.toList = P ++ X ++ Y ++ Z := by
        rw [<- hP, <- hX, <- hY, <- hZ, List.append_assoc, List.append_assoc]
        conv => lhs; rw [<- List.take_append_drop sa p.toList]
        congr 1
        conv => lhs; rw [<- List.take_append_drop na (p.toList.drop sa)]
        congr 1
        rw [List.drop_drop]
        conv => lhs; rw [<- List.take_append_drop nb (p.toList.drop (sa + na))]
        congr 1
        rw [List.drop_drop]
      have sX : X.Pairwise (Le lt) := by rw [<- hX]; exact up_slice ua (by omega)
      have sY : Y.Pairwise (Le lt) := by rw [<- hY]; exact up_slice ub (by omega)
      have S' : StAt κ it st (P ++ X ++ Y ++ Z) pd := ⟨S.k, by rw [S.a, <- eL]; apply Array.toList_inj.mp; rw [Array.toList_map], S.p, S.f⟩
      have lN : ∀ x ∈ P ++ X ++ Y ++ Z, x < N := fun x hx => by
        rw [<- eL] at hx
        have := B.perm.mem_iff.mp (by simpa using hx)
        simpa using this
      have p1 : pd[i]? = some (P.length, X.length, w1) := by rw [<- Array.getElem?_toList, hpd, <- hi, lP, lX]; simp
      have p2 : pd[i + 1]? = some (P.length + X.length, Y.length, w2) := by rw [<- Array.getElem?_toList, hpd, <- hi, lP, lX, lY]; simp
      refine mergeAt_ok c o S' lN p1 p2 (by omega) (by omega) sX sY fun st' W SW pW sW => ?_
      have lW : W.length = na + nb := by rw [pW.length_eq, List.length_append, lX, lY]
      have pW' : (P ++ W ++ Z).Perm p.toList := by
        rw [eL, List.append_assoc (P ++ X) Y Z, List.append_assoc P X, List.append_assoc P W]
        refine List.Perm.append_left _ ?_
        rw [<- List.append_assoc]
        exact List.Perm.append_right _ pW
      have gD : ∀ j, ((P ++ W ++ Z).toArray).getD j 0 = (P ++ W ++ Z).getD j 0 := fun j => by rw [getD_toList]
      have keep : ∀ j, j < sa \/ sa + na + nb <= j -> ((P ++ W ++ Z).toArray).getD j 0 = p.getD j 0 := fun j hj => by
        rw [gD, getD_toList, eL, List.getD_eq_getElem?_getD, List.getD_eq_getElem?_getD]
        congr 1
        rcases hj with hj | hj
        · rw [List.append_assoc, List.append_assoc, List.append_assoc, List.getElem?_append_left (by omega), List.getElem?_append_left (by omega)]
        · rw [List.getElem?_append_right (by rw [List.length_append]; omega), List.getElem?_append_right (by rw [List.length_append, List.length_append]; omega)]
          congr 1
          rw [List.length_append, List.length_append, List.length_append]
          omega
      refine h st' (P ++ W ++ Z).toArray _ ⟨SW.k, by rw [SW.a]; simp, SW.p, SW.f⟩ ⟨?_⟩ ?_ ?_ (fun j hj => keep j (.inr (by omega)))
      · exact Array.Perm.trans (by rw [Array.perm_iff_toList_perm]; exact pW') B.perm
      · rw [Array.toList_eraseIdxIfInBounds, Array.toList_setIfInBounds, hpd, <- hi, lP, lX, lY]
        simp [List.eraseIdx_append_of_length_le]
      · rw [Array.toList_eraseIdxIfInBounds, Array.toList_setIfInBounds, hpd, <- hi, lP, lX, lY]
        have e : ((ps1 ++ (sa, na, w1) :: (sa + na, nb, w2) :: ps2).set ps1.length (sa, na + nb, w1)).eraseIdx (ps1.length + 1) = ps1 ++ (sa, na + nb, w1) :: ps2 := by
          simp [List.eraseIdx_append_of_length_le]
        rw [e]
        refine (R1.same fun j _ h2 => keep j (.inl h2)).app (.cons (by omega) ?_ ?_)
        · intro i j hi' hij hj
          rw [gD, gD]
          have gW : ∀ k, sa <= k -> k < sa + (na + nb) -> (P ++ W ++ Z).getD k 0 = W.getD (k - sa) 0 := fun k k1 k2 => by
            rw [List.getD_eq_getElem?_getD, List.getD_eq_getElem?_getD, List.append_assoc, List.getElem?_append_right (by omega), List.getElem?_append_left (by omega), lP]
          rw [gW i hi' (by omega), gW j (by omega) hj]
          by_cases e : i = j
          · subst e; exact o.rf _
          · have gE : ∀ k (hk : k < W.length), W.getD k 0 = W[k] := fun k hk => by rw [List.getD_eq_getElem?_getD, List.getElem?_eq_getElem hk]; rfl
            rw [gE (i - sa) (by omega), gE (j - sa) (by omega)]
            exact List.pairwise_iff_getElem.mp sW _ _ (by omega) (by omega) (by omega)
        · rw [<- Nat.add_assoc]
          exact R3.same fun j h1 _ => keep j (.inr h1)
end
end L2
namespace L2
open PySem PySem.W PyProof.Rows
section
variable {prog : Program} {w : World} {A : Around} {E : Value -> Shared -> Prop} {s : Shared} {κ : SortKind} {it : Array Keyed} {lt : Nat -> Nat -> Bool} {N : Nat}
theorem mergeAt_any {i lo : Nat} {p : Array Nat} {pd : Array (Nat × Nat × Nat)} {st : SortSt} {Q : Bool -> SortSt -> Prop} (c : Cmp prog w A κ it lt N s) (o : Ord lt) (B : PB N p) (S : StP κ it st p pd) (R : Rn lt p 0 pd.toList lo) (hlo : lo <= N) (hi : i + 1 < pd.size)
    (h : ∀ st' p' pd', StP κ it st' p' pd' -> PB N p' -> pd'.size = pd.size - 1 -> Rn lt p' 0 pd'.toList lo -> (∀ j, lo <= j -> p'.getD j 0 = p.getD j 0) -> Q true st') : wpS (model prog w) A E s (mergeAt' i) Q st := by
  obtain ⟨ps1, sa, na, w1, nb, w2, ps2, e1, e2⟩ := R.at (i := i) (by rw [Array.length_toList]; exact hi)
  refine mergeAt_runs c o B S e1 e2 R hlo fun st3 p3 pd3 S3 B3 e3 R3 k3 => h st3 p3 pd3 S3 B3 ?_ R3 k3
  have a1 : pd3.toList.length = pd3.size := Array.length_toList
  have a2 : pd.toList.length = pd.size := Array.length_toList
  rw [e3] at a1
  rw [e1] at a2
  simp at a1 a2
  omega
theorem sortRuns_ok {p : Array Nat} {st : SortSt} {Q : Unit -> SortSt -> Prop} (c : Cmp prog w A κ it lt N s) (o : Ord lt) (B : PB N p) (S : StP κ it st p #[]) (h2 : 2 <= N)
    (h : ∀ st' p' pd, StP κ it st' p' pd -> PB N p' -> UpF lt p' 0 N -> Q () st') : wpS (model prog w) A E s sortRuns' Q st := by
  refine wpS_bind (wpS_get ?_)
  have hs : (arrOf st).size = N := by rw [S.a, Array.size_map, B.size]
  dsimp only
  rw [hs]
  generalize minRun' N N 0 = mr
  refine wpS_bind (wpS_mono (wpS_forRange
    (I := fun x r st' => ∃ lo p' pd, r = (none, lo) /\ StP κ it st' p' pd /\ PB N p' /\ Rn lt p' 0 pd.toList lo /\ lo <= N /\ x <= lo)
    (Q := fun r st' => ∃ p' pd, r = (none, N) /\ StP κ it st' p' pd /\ PB N p' /\ Rn lt p' 0 pd.toList N) ?_ ?_ ⟨0, p, #[], rfl, S, B, .nil 0, by omega, by omega⟩) ?_)
  rotate_left
  · rintro r st' ⟨lo, p', pd, rfl, S', B', R', l1, l2⟩
    have : lo = N := by omega
    subst this
    exact ⟨p', pd, rfl, S', B', R'⟩
  · rintro r st' ⟨p', pd, rfl, S', B', R'⟩
    dsimp only
    refine wpS_bind (wpS_mono (wpS_forRange
      (I := fun x r st' => ∃ p' pd, r = (none, ()) /\ StP κ it st' p' pd /\ PB N p' /\ Rn lt p' 0 pd.toList N /\ pd.size + x <= N)
      (Q := fun r st' => ∃ p' pd, r = (none, ()) /\ StP κ it st' p' pd /\ PB N p' /\ Rn lt p' 0 pd.toList N /\ pd.size <= 1) ?_ ?_ ⟨p', pd, rfl, S', B', R', ?_⟩) ?_)
    · rintro x r st' _ hx ⟨p', pd, rfl, S', B', R', l1⟩
      rcases st' with ⟨kd, ar, pn, gl, fl⟩
      have ep : pn = pd := S'.p
      subst ep
      refine wpS_bind (wpS_get ?_)
      by_cases e : pn.size <= 1
      · exact wp_yes e (wpS_pure ⟨p', pn, rfl, S', B', R', e⟩)
      refine wp_no e ?_
      refine wpS_bind (mergeAt_any c o B' S' R' (Nat.le_refl _) ?_ fun st3 p3 pd3 S3 B3 l3 R3 _ => ?_)
      · dsimp only
        repeat' split
        all_goals omega
      · refine wp_no (by decide) (wpS_pure ⟨p3, pd3, rfl, S3, B3, R3, by omega⟩)
    · rintro r st' ⟨p', pd, rfl, S', B', R', l1⟩
      exact ⟨p', pd, rfl, S', B', R', by omega⟩
    · have := R'.le
      rw [Array.length_toList] at this
      omega
    · rintro r st' ⟨p', pd, rfl, S', B', R', l1⟩
      dsimp only
      refine wpS_pure (h _ p' pd S' B' ?_)
      generalize hl : pd.toList = ps at R'
      cases R' with
      | nil => omega
      | cons h0 u t =>
        cases t with
        | nil => rw [Nat.zero_add]; exact u
        | cons h0' u' t' =>
          have : pd.toList.length <= 1 := by rw [Array.length_toList]; exact l1
          rw [hl] at this
          simp at this
  rintro x r st' _ hx ⟨lo, p', pd, rfl, S', B', R', l1, l2⟩
  dsimp only
  by_cases e : lo >= N
  · have : lo = N := by omega
    subst this
    exact wp_yes e (wpS_pure ⟨p', pd, rfl, S', B', R'⟩)
  refine wp_no e (wpS_bind (count_ok c o B' S' (by omega) (by omega) fun st2 p2 n S2 B2 n1 n2 U2 K2 => ?_))
  dsimp only
  refine wp_ite (fun hm => ?_) (fun hm => ?_)
  case' refine_1 =>
    refine wpS_bind (wpS_lift (wpAny_rule ⟨rfl, ?_⟩))
    refine wpS_bind (binary_ok c o B2 S2 (by omega) (by omega) (by omega) U2 fun st3 p3 S3 B3 U3 K3' => ?_)
    refine wp_no (by decide) ?_
    have K3 : ∀ i, i < lo -> p3.getD i 0 = p'.getD i 0 := fun i hi => (K3' i hi).trans (K2 i hi)
    have n3 : 0 < min (N - lo) (minRun' N N 0) := by
      have : n < minRun' N N 0 := hm
      omega
    have n4 : lo + min (N - lo) (minRun' N N 0) <= N := by omega
  case' refine_2 =>
    have S3 := S2
    have B3 := B2
    have U3 := U2
    have K3 := K2
    generalize p2 = p3 at S3 B3 U3 K3
    generalize st2 = st3 at S3 ⊢
    have n3 : 0 < n := n1
    have n4 : lo + n <= N := by omega
  all_goals
    have R3 := R'.same (p' := p3) fun i _ hi => K3 i hi
    refine wpS_bind (wpS_get ?_)
    rw [show (pendingOf st3).back? = pd.back? by rw [S3.p]]
    have push : ∀ (st4 : SortSt) (p4 : Array Nat) (pd4 : Array (Nat × Nat × Nat)) (k : Nat), 0 < k -> lo + k <= N -> UpF lt p4 lo k -> StP κ it st4 p4 pd4 -> PB N p4 -> Rn lt p4 0 pd4.toList lo ->
        ∃ p' pd, StP κ it (setPending st4 ((pendingOf st4).push (lo, k, 0))) p' pd /\ PB N p' /\ Rn lt p' 0 pd.toList (lo + k) /\ lo + k <= N /\ x + 1 <= lo + k := fun st4 p4 pd4 k k1 k2 u4 S4 B4 R4 =>
      ⟨p4, pd4.push (lo, k, 0), ⟨S4.k, S4.a, by show (pendingOf st4).push _ = _; rw [S4.p], S4.f⟩, B4, by rw [Array.toList_push]; exact R4.app (.cons k1 u4 (.nil _)), k2, by omega⟩
    cases hb : pd.back? with
    | none =>
      dsimp only
      obtain ⟨p9, pd9, q1, q2, q3, q4, q5⟩ := push st3 p3 pd _ n3 n4 U3 S3 B3 R3
      exact wpS_bind (wpS_modify (wpS_pure ⟨_, p9, pd9, rfl, q1, q2, q3, q4, q5⟩))
    | some b =>
      obtain ⟨s1, m1, w1⟩ := b
      dsimp only
      refine wpS_bind (wpS_mono (wpS_forRange
        (I := fun _ r st' => ∃ p4 pd4, r = (none, ()) /\ StP κ it st' p4 pd4 /\ PB N p4 /\ Rn lt p4 0 pd4.toList lo /\ ∀ j, lo <= j -> p4.getD j 0 = p3.getD j 0)
        (Q := fun r st' => ∃ p4 pd4, r = (none, ()) /\ StP κ it st' p4 pd4 /\ PB N p4 /\ Rn lt p4 0 pd4.toList lo /\ ∀ j, lo <= j -> p4.getD j 0 = p3.getD j 0) ?_ (fun _ _ z => z) ⟨p3, pd, rfl, S3, B3, R3, fun _ _ => rfl⟩) ?_)
      · rintro y r st4 _ hy ⟨p4, pd4, rfl, S4, B4, R4, K4⟩
        rcases st4 with ⟨kd, ar, pn, gl, fl⟩
        have ep : pn = pd4 := S4.p
        subst ep
        refine wpS_bind (wpS_get ?_)
        dsimp only
        by_cases e5 : pn.size > 1
        · have e6 : pn[pn.size - 2]? = some pn[pn.size - 2] := Array.getElem?_eq_getElem (by omega)
          rw [if_pos e5, e6]
          generalize pn[pn.size - 2] = b6
          obtain ⟨b61, b62, b63⟩ := b6
          dsimp only
          refine wp_ite (fun _ => wpS_pure ⟨p4, pn, rfl, S4, B4, R4, K4⟩) (fun _ => ?_)
          refine wpS_bind (mergeAt_any c o B4 S4 R4 l1 (by omega) fun st5 p5 pd5 S5 B5 l5 R5 K5 => ?_)
          exact wp_no (by decide) (wpS_pure ⟨p5, pd5, rfl, S5, B5, R5, fun j hj => (K5 j hj).trans (K4 j hj)⟩)
        · rw [if_neg e5]
          exact wpS_pure ⟨p4, pn, rfl, S4, B4, R4, K4⟩
      · rintro r st4 ⟨p4, pd4, rfl, S4, B4, R4, K4⟩
        rcases st4 with ⟨kd, ar, pn, gl, fl⟩
        have ep : pn = pd4 := S4.p
        subst ep
        dsimp only
        refine wpS_bind (wpS_modify (wpS_bind (wpS_modify (wpS_pure ?_))))
        have U4 := U3.same (p' := p4) fun i h1 _ => K4 i h1
        refine ⟨_, p4, _, rfl, ⟨S4.k, S4.a, rfl, S4.f⟩, B4, ?_, n4, by omega⟩
        dsimp only
        rw [Array.toList_push, Array.toList_modify]
        refine Rn.app (Rn.mod ?_ _ R4) (.cons n3 U4 (.nil _))
        intro z
        exact ⟨rfl, rfl⟩
end
end L2
namespace L2
open PySem PySem.W PyProof.Rows
section
variable {prog : Program} {w : World} {A : Around} {E : Value -> Shared -> Prop} {s : Shared}
theorem sort_bodyG {a : Addr} {vs : List Value} {n : Nat} {lt : Nat -> Nat -> Bool} {P : PySem.Fin -> Shared -> Prop} (ho : s.heap.get? a = some (seqObj "list" vs.toArray n)) (o : Ord lt) (hbig : vs.length <= 1000000)
    (ask : 2 <= vs.length -> ∀ h', (∀ b u, b ≠ a -> s.heap.get? b = some u -> h'.get? b = some u) -> ∃ κ : SortKind, (∀ (E : Value -> Shared -> Prop) (Q : SortKind -> Shared -> Prop), Q κ { s with heap := h' } -> wpAny (model prog w) A (keyKind' vs.toArray) Q E { s with heap := h' }) /\
      ∀ (i j : Nat) (C : Bool -> Shared -> Prop), i < vs.length -> j < vs.length -> C (lt i j) { s with heap := h' } -> wpAny (model prog w) A (keyLt' κ (vs.getD i Value.none) (vs.getD j Value.none)) C (fun _ _ => False) { s with heap := h' })
    (q : ∀ p, PB vs.length p -> Up lt p vs.length -> P (.done (.ret .none)) { s with heap := sortedHeap s.heap a vs (outOf vs p).toArray }) : wpAny (model prog w) A (Builtin.«list.sort» ⟨[.ref a], []⟩) P E s := by
  rw [list_sort_plain]
  have la : a < s.heap.objs.size := Heap.lt_size ho
  have zs : vs.length <= sizeLine := by rw [sizeLine_eq]; omega
  refine wpAny_bind (listItems_at ho rfl (wpAny_bind (listUpdate_at ho rfl ?_ (by rw [List.size_toArray]; exact zs) (Nat.zero_le _))))
  obtain ⟨e1, o1⟩ : ∃ e1, (s.heap.update a (Obj.mapSeq fun _ => (#[] : Array Value))).get? a = some (seqObj "list" #[] e1) := ⟨_, get?_update_seq ho fun _ => #[]⟩
  refine wpAny_bind (seqEpoch_at o1 rfl (wpAny_bind (wpAny_newTuple (wpAny_bind (wpAny_newList (wpAny_holding ?_) (Nat.zero_le _))) (by show vs.length <= _; exact zs))))
  have sb := Heap.SameBut.update s.heap a (Obj.mapSeq fun _ => (#[] : Array Value))
  have keep : ∀ b u, b ≠ a -> s.heap.get? b = some u -> (((s.heap.update a (Obj.mapSeq fun _ => #[])).push (seqObj "tuple" vs.toArray 0)).push (seqObj "list" #[] 0)).get? b = some u := fun b u hb z =>
    Heap.get?_push_of_some _ (Heap.get?_push_of_some _ ((sb.2 b hb).trans z))
  have o6 : (((s.heap.update a (Obj.mapSeq fun _ => #[])).push (seqObj "tuple" vs.toArray 0)).push (seqObj "list" #[] 0)).get? a = some (seqObj "list" #[] e1) := Heap.get?_push_of_some _ (Heap.get?_push_of_some _ o1)
  show wpAny (model prog w) A _ P E { s with heap := ((s.heap.update a (Obj.mapSeq fun _ => (#[] : Array Value))).push (seqObj "tuple" vs.toArray 0)).push (seqObj "list" #[] 0) }
  dsimp only
  have fin : ∀ (st : SortSt) (out : List Value), (arrOf st).map (·.2) = out.toArray -> out.length = vs.length -> failedOf st = none -> P (.done (.ret .none)) { s with heap := sortedHeap s.heap a vs out.toArray } ->
      wpAny (model prog w) A (do
        let touched := (<- seqEpoch a) != e1
        Builtin.List.listUpdate (.ref a) fun _ => (arrOf st).map (·.2)
        if let some e := failedOf st then rule "list.sort.comparison-raised"; throw e
        if touched then rule "list.sort.modified"; raiseError "ValueError" "list modified during sort"
        ret .none) P E { s with heap := ((s.heap.update a (Obj.mapSeq fun _ => (#[] : Array Value))).push (seqObj "tuple" vs.toArray 0)).push (seqObj "list" #[] 0) } := by
    intro st out eo el ef qq
    refine wpAny_bind (seqEpoch_at o6 rfl ?_)
    rw [eo]
    refine wpAny_bind (listUpdate_at o6 rfl ?_ (Nat.zero_le _) (by show out.toArray.size <= _; rw [List.size_toArray, el, sizeLine_eq]; omega))
    rw [ef]
    simp only [bne_self_eq_false, Bool.false_eq_true, if_false]
    exact wpAny_pure qq
  by_cases two : vs.length >= 2
  · have hn2 : ¬ vs.toArray.size < 2 := by rw [List.size_toArray]; omega
    rw [if_neg hn2, if_neg hn2]
    obtain ⟨κ, kk, cc⟩ := ask two _ keep
    have hit : ∀ i, i < vs.length -> (kas_item (vs.toArray.zip vs.toArray) i).1 = vs.getD i Value.none := fun i hi => by simp [kas_item, Array.getD, List.getD, hi]
    refine wpAny_bind (kk _ _ ?_)
    have C : Cmp prog w A κ (vs.toArray.zip vs.toArray) lt vs.length { s with heap := ((s.heap.update a (Obj.mapSeq fun _ => (#[] : Array Value))).push (seqObj "tuple" vs.toArray 0)).push (seqObj "list" #[] 0) } := fun i j C hi hj hC => by
      unfold kas_cmp
      rw [hit i hi, hit j hj]
      exact cc i j C hi hj hC
    have S0 : StP κ (vs.toArray.zip vs.toArray) (SortSt.mk' κ (vs.toArray.zip vs.toArray) #[] 7 none) (List.range vs.length).toArray #[] := by
      refine ⟨rfl, ?_, rfl, rfl⟩
      show vs.toArray.zip vs.toArray = _
      apply Array.ext (by simp)
      intro i h1 h2
      simp at h1
      simp [kas_item, Array.getD, h1]
    refine wpAny_bind (wpAny_mono (sortRuns_ok (E := E) (Q := fun _ st' => ∃ p, PB vs.length p /\ Up lt p vs.length /\ arrOf st' = p.map (kas_item (vs.toArray.zip vs.toArray)) /\ failedOf st' = none) C o ⟨Array.Perm.refl _⟩ S0 two fun st' p' pd S' B' U' => ⟨p', B', fun i j hij hj => U' i j (Nat.zero_le _) hij (by omega), S'.a, S'.f⟩) ?_ fun _ _ x => x)
    rintro ⟨⟨⟩, st'⟩ s' ⟨rfl, p, pb, up, ea, ef⟩
    exact fin st' (outOf vs p) (kat_snds rfl ea) (by unfold outOf; rw [List.length_map, Array.length_toList, pb.size]) ef (q p pb up)
  · have hn2 : vs.toArray.size < 2 := by rw [List.size_toArray]; omega
    rw [if_pos hn2, if_pos hn2]
    refine wpAny_bind (wpAny_pure ?_)
    rw [StateT.run_pure]
    refine wpAny_bind (wpAny_pure ?_)
    refine fin (SortSt.mk' general' (vs.toArray.zip vs.toArray) #[] 7 none) (outOf vs (List.range vs.length).toArray) ?_ (by rw [sort_one two]) rfl (q _ ⟨Array.Perm.refl _⟩ ?_)
    · rw [sort_one two]; exact zip_snd vs
    · intro i j hij hj
      have : i = j := by omega
      subst this; exact o.rf _
theorem sorted_genG {l : Addr} {vs : List Value} {lt : Nat -> Nat -> Bool} {Q : Value -> Shared -> Prop} (hl : s.heap.IsList l vs.toArray) (o : Ord lt) (hbig : vs.length <= 1000000) (ask : Asks prog w s lt vs)
    (q : ∀ p, PB vs.length p -> Up lt p vs.length -> Q (.ref (s.heap.objs.size + 1)) { s with heap := sortedAll s.heap vs (outOf vs p).toArray }) : wpAny (model prog w) A (call (.builtin "sorted") [.ref l]) Q E s := by
  refine Calls.call_function_entry kind_sorted plain_sorted entry_sorted (args_sorted1 _) ?_
  unfold Builtin.«sorted»
  refine wpAny_bind (m := checkCount "sorted" 1 1 _) (wpAny_pure (wpAny_bind (collect_list hl (wpAny_bind (wpAny_newList ?_ (by rw [sizeLine_eq]; omega))) (by rw [sizeLine_eq]; omega))))
  have z1 : ((s.heap.push (seqObj "list" #[] 0)).update s.heap.objs.size (Obj.mapSeq (· ++ vs.toArray))).objs.size = s.heap.objs.size + 1 := by rw [Heap.size_update, size_push']
  have oL : (((s.heap.push (seqObj "list" #[] 0)).update s.heap.objs.size (Obj.mapSeq (· ++ vs.toArray))).push (seqObj "list" vs.toArray 0)).get? (s.heap.objs.size + 1) = some (seqObj "list" vs.toArray 0) := by
    rw [<- z1]; exact Heap.get?_push_size _ rfl
  have keep : ∀ b u, s.heap.get? b = some u -> (((s.heap.push (seqObj "list" #[] 0)).update s.heap.objs.size (Obj.mapSeq (· ++ vs.toArray))).push (seqObj "list" vs.toArray 0)).get? b = some u := fun b u z => by
    have lb : b < s.heap.objs.size := Heap.lt_size z
    exact Heap.get?_push_of_some _ (by rw [Heap.get?_update_ne _ _ _ _ (Nat.ne_of_lt lb)]; exact Heap.get?_push_of_some _ z)
  show wpAny _ _ _ _ _ { s with heap := ((s.heap.push (seqObj "list" #[] 0)).update s.heap.objs.size (Obj.mapSeq (· ++ vs.toArray))).push (seqObj "list" vs.toArray 0) }
  rw [z1]
  refine wpAny_bind (wpAny_holding (wpAny_call_entry slot_list_sort ⟨_, oL, rfl⟩ entry_list_sort (sort_bodyG oL o hbig (fun two h' k => ask _ h' (fun b u z => k b u (fun e => ?_) (keep b u z)) two) fun p pb up => ⟨_, rfl, ?_⟩) (args_list_sort _)))
  · exact absurd (Heap.lt_size z) (by rw [e]; exact Nat.not_lt.mpr (Nat.le_succ _))
  · exact wpAny_pure ⟨_, rfl, q p pb up⟩
end
end L2
namespace L2
open PySem PySem.W PyProof.Rows
section
variable {X : Cx}
end
end L2
namespace L2
open PySem PySem.Spec PyProof.Rows
section
variable {X : Cx}
end
end L2
namespace L2
open PySem PySem.W PyProof.Rows
theorem asks_tups2 {prog : Program} {w : World} {s : Shared} {vs : List Value} {kss : List (List Int)} (h : Paired (TupI s.heap) vs kss) (hne : 2 <= kss.length -> ∀ ks ∈ kss, ks ≠ []) : Asks prog w s (fun i j => HT.lexLt (kss.getD i []) (kss.getD j [])) vs := by
  by_cases h2 : 2 <= kss.length
  · exact asks_tups h (hne h2)
  · intro A h' keep two
    have := Paired.length h
    exact absurd (show 2 <= kss.length by omega) h2
section
variable {X : Cx}
def rSortedH (K : PySem.W.Frag) : List V -> Hp -> VK -> Prop := fun xs H Q => ∃ (p : Addr) (rs : List V) (kss : List (List Int)), xs = [.ref p] /\ SqL K H p rs /\ rs.length <= 1000000 /\ Paired (IntsAt H) rs kss /\ (2 <= kss.length -> ∀ ks ∈ kss, ks ≠ []) /\
  ∀ (l : Addr) (rs' : List V) (kss' : List (List Int)), Paired (IntsAt H) rs' kss' -> kss'.Perm kss -> kss'.Pairwise LexLe -> H l = none -> Q (.ref l) (upd H l (.lst rs'))
theorem call_sortedH : CallR X (.builtin "sorted") (rSortedH X.K) := by
  intro pins s σ H xs us Q I r h
  obtain ⟨p, rs, kss, rfl, hp, hn, hk, hne, q⟩ := h
  obtain ⟨u, rfl, ru⟩ := Vals.one r
  cases (show u = Value.ref p from ru)
  obtain ⟨its, r1, t1, _⟩ := I.list hp
  have hl : its.length = rs.length := r1.length.symm
  have kl : rs.length = kss.length := Paired.length hk
  have tup : ∀ i, i < rs.length -> ∃ a ks, rs.getD i .non = .ref a /\ kss.getD i [] = ks /\ its.getD i Value.none = .ref a /\ H a = some (.tup (ks.map V.int)) := fun i hi => by
    obtain ⟨ks, e, a, ea, ha⟩ := Paired.at hk (i := i) (a := rs[i]) (by simp [hi])
    obtain ⟨v, ev, rv⟩ := r1.get (i := i) (x := rs[i]) (by simp [hi])
    rw [ea] at rv
    refine ⟨a, ks, by simp [hi, ea], by rw [List.getD_eq_getElem?_getD, e]; rfl, ?_, ha⟩
    rw [List.getD_eq_getElem?_getD, ev]
    exact rv
  have tups : Paired (TupI s.heap) its kss := by
    have e1 := range_getD its Value.none
    have e2 := range_getD kss []
    rw [hl] at e1
    rw [<- kl] at e2
    rw [<- e1, <- e2]
    refine paired_map fun i hi => ?_
    obtain ⟨a, ks, _, e4, e5, e6⟩ := tup i (List.mem_range.mp hi)
    obtain ⟨_, us, ru, o, g, hc, n, hd⟩ := I.hok a _ e6
    rw [e4, e5]
    exact ⟨a, o, us.toArray, n, rfl, g, hc, hd, by simpa using intsAre_of ru⟩
  refine sorted_genG t1.isList (lex_ord kss) (by omega) (asks_tups2 tups hne) fun pm pb up => ?_
  obtain ⟨e, he⟩ := sortedAll_at s.heap its (outOf its pm).toArray
  have fr : s.heap.objs.size <= s.heap.objs.size + 1 := Nat.le_succ _
  have pl : ∀ i ∈ pm.toList, i < rs.length := fun i hi => by
    have := pb.list.mem_iff.mp hi
    rw [List.mem_range, hl] at this
    exact this
  have ls : pm.toList.length = rs.length := by rw [Array.length_toList, pb.size, hl]
  refine ⟨.ref (s.heap.objs.size + 1), upd H (s.heap.objs.size + 1) (.lst (pm.toList.map fun i => rs.getD i .non)), I.laid (t' := s.toks) (fun b o z => sortedAll_old z) fr ?_, rfl,
    q _ _ (pm.toList.map fun i => kss.getD i []) (paired_map fun i hi => ?_) ?_ ?_ (I.hok.fresh fr)⟩
  · refine ⟨?_, outOf its pm, e, paired_map fun i hi => ?_, he⟩
    · rw [List.length_map, ls, sizeLine_eq]; omega
    · obtain ⟨a, ks, e3, e4, e5, e6⟩ := tup i (pl i hi)
      rw [e3, e5]
      exact rfl
  · obtain ⟨a, ks, e3, e4, e5, e6⟩ := tup i (pl i hi)
    rw [e3, e4]
    exact ⟨a, rfl, e6⟩
  · have := pb.list.map fun i => kss.getD i []
    rw [hl, kl, range_getD] at this
    exact this
  · rw [List.pairwise_iff_getElem]
    intro i j hi hj hij
    rw [List.length_map] at hi hj
    have := up i j (by omega) (by rw [hl]; omega)
    simp only [List.getElem_map, Array.getElem_toList]
    have gi : pm.getD i 0 = pm[i] := by simp [Array.getD, show i < pm.size by rw [<- Array.length_toList]; exact hi]
    have gj : pm.getD j 0 = pm[j] := by simp [Array.getD, show j < pm.size by rw [<- Array.length_toList]; exact hj]
    rw [gi, gj] at this
    exact this
end
section
variable {prog : Program} {w : World} {A : Around}
end
section
variable {X : Cx}
end
end L2
namespace L2
open PySem PySem.Spec PyProof.Rows
section
variable {X : Cx}
end
end L2
namespace L2
open PySem PySem.W PyProof.Rows
section
variable {prog : Program} {w : World} {d : Addr} {es : Array DictEntry} {ep : Nat} {o : Obj}
end
section
variable {X : Cx}
end
end L2
namespace L2
open PySem PySem.Spec PyProof.Rows
section
variable {X : Cx}
theorem range_any_get (bs : List Bool) : (List.range bs.length).any (fun i => bs.getD i false) = bs.any id := by
  rw [Bool.eq_iff_iff, List.any_eq_true, List.any_eq_true]
  constructor
  · rintro ⟨i, hi, h⟩
    have hi' := List.mem_range.mp hi
    refine ⟨bs[i], List.getElem_mem hi', ?_⟩
    simpa [List.getD, hi'] using h
  · rintro ⟨x, hx, h⟩
    obtain ⟨i, hi, e⟩ := List.mem_iff_getElem.mp hx
    refine ⟨i, List.mem_range.mpr hi, ?_⟩
    simp [List.getD, hi, e]
    exact h
theorem call_any (hc : X.calm = true) : CallR X (.builtin "any") (fun xs H Q => ∃ (p : Addr) (bs : List Bool), xs = [.ref p] /\ SqL X.K H p (bs.map V.bl) /\ Q (.bl (bs.any id)) H) := by
  intro pins s σ H xs us Q I r h
  obtain ⟨p, bs, rfl, hp, q⟩ := h
  obtain ⟨u, rfl, ru⟩ := Vals.one r
  cases (show u = Value.ref p from ru)
  obtain ⟨its, r1, t1, _⟩ := I.list hp
  have hh : X.A.in1.handled = none := I.ok.hd hc
  have hlt : p < s.heap.objs.size := by obtain ⟨_, e, _⟩ := t1.isList; exact Heap.lt_size e
  refine call_any_walk (wpAny_pyIter_list t1.isList ⟨_, _, _, _, _, _, fun i => bs.getD i false, rfl, Walks.list hh _ p (Nat.ne_of_lt hlt) its.toArray, ⟨⟨_, Heap.get?_push_size _ rfl, rfl, rfl⟩, t1.isList.push _⟩, ?_, ?_⟩)
  · intro i v s' Q' E' e hq
    rw [bools_at r1 e]
    exact wpAny_truthy_bool hq
  · intro h' tk hk
    have hl : its.toArray.size = bs.length := by have := r1.length; simp at this ⊢; omega
    rw [hl, range_any_get]
    exact ⟨.bl _, H, I.kept (kept_iter hk), rfl, q⟩
def rInsert : V -> List V -> Hp -> VK -> Prop := fun x vs H Q => ∃ (l : Addr) (xs : List V) (i : Nat) (y : V), x = .ref l /\ vs = [.int (i : Int), y] /\ H l = some (.lst xs) /\ i <= xs.length /\ xs.length < 1000 /\ Q .non (upd H l (.lst (xs.take i ++ y :: xs.drop i)))
theorem vals_take {xs : List V} {us : List Value} (r : Vals xs us) (i : Nat) : Vals (xs.take i) (us.take i) := by
  induction r generalizing i with
  | nil => simp; exact .nil
  | cons a t ih =>
    cases i with
    | zero => exact .nil
    | succ i => exact .cons a (ih i)
theorem vals_drop {xs : List V} {us : List Value} (r : Vals xs us) (i : Nat) : Vals (xs.drop i) (us.drop i) := by
  induction r generalizing i with
  | nil => simp; exact .nil
  | cons a t ih =>
    cases i with
    | zero => exact .cons a t
    | succ i => exact ih i
theorem mt_insert : MtM X "list.insert" rInsert := by
  intro pins s σ H x vs v us Q I rx rv h
  obtain ⟨l, xs, i, y, rfl, rfl, hH, hi, hz, q⟩ := h
  cases rx
  obtain ⟨u1, u2, rfl, r1, r2⟩ := Vals.two rv
  obtain ⟨t, rfl⟩ := r1
  obtain ⟨z, its, n, r, hl, e⟩ := I.lstM hH
  have sl : (1000 : Nat) <= sizeLine := by decide
  have hs : its.toArray.size <= sizeLine := by rw [List.size_toArray, <- hl]; exact z
  have fin : ∀ ii : Int, ii = (i : Int) -> wpAny (model X.prog X.w) X.A (call (.builtin "list.insert") [.ref l, .int ii t, u2]) (EP X pins σ Q) X.xe s := by
    intro ii hii
    have hfit : ¬(!Builtin.List.listFitsIndex ii) = true := by
      unfold Builtin.List.listFitsIndex
      simp
      omega
    refine call_meets F.slot_list_insert ⟨_, e, rfl⟩ F.entry_list_insert (F.args_list_insert_3 _ _ _) (AutoSeq1.list_insert_list_int_val_1 l its.toArray n ii t u2 hfit hs) ⟨e, ?_⟩
    refine ⟨.non, _, I.lset (its' := its.take i ++ u2 :: its.drop i) hH e ?_ ((vals_take r i).append (.cons r2 (vals_drop r i))) ?_, rfl, q⟩
    · dsimp only
      rw [if_neg (by omega), show ii.toNat = i by omega, List.size_toArray, Nat.min_eq_left (by omega)]
      apply Array.ext'
      simp
      exact List.take_of_length_le (by rw [List.length_drop]; exact Nat.le_refl _)
    · rw [List.length_append, List.length_cons, List.length_take, List.length_drop]
      omega
  exact fin _ rfl
def isK (k : Int) (v : Value) : Bool := match v with | .int a _ => a == k | _ => false
theorem ints_at {ns : List Int} {its : List Value} (r : Vals (ns.map V.int) its) {m : Nat} (hm : m < its.length) : ∃ t a, ns[m]? = some a /\ its[m] = .int a t := by
  have hl := r.length
  rw [List.length_map] at hl
  have e : (ns.map V.int)[m]? = some (V.int ns[m]) := by rw [List.getElem?_map, List.getElem?_eq_getElem (by omega)]; rfl
  obtain ⟨u, hu, t, ru⟩ := r.get e
  rw [List.getElem?_eq_getElem hm] at hu
  exact ⟨t, ns[m], List.getElem?_eq_getElem (by omega), (Option.some.inj hu).trans ru⟩
end
end L2
namespace L2
open PySem PySem.Spec PyProof.Rows PySem.MeetsSeq
theorem wpAny_forIn_rng {M : Model} {A : Around} {E : Value -> Shared -> Prop} {s : Shared} {β : Type} {n : Nat} (f : Nat -> β -> Sem (ForInStep β)) (I : List Nat -> β -> Shared -> Prop) (Q : β -> Shared -> Prop)
    (turn : ∀ x rest b s, I (x :: rest) b s -> wpAny M A (f x b) (fun r s' => match r with | .yield b' => I rest b' s' | .done b' => Q b' s') E s)
    (fin : ∀ b s, I [] b s -> Q b s) (b : β) (h : I (List.range' 0 n) b s) : wpAny M A (forIn ([:n] : Std.Legacy.Range) b f) Q E s := by
  rw [Std.Legacy.Range.forIn_eq_forIn_range']
  have hsz : ([:n] : Std.Legacy.Range).size = n := by simp [Std.Legacy.Range.size]
  show wpAny M A (forIn (List.range' 0 ([:n] : Std.Legacy.Range).size 1) b f) Q E s
  rw [hsz]
  exact wpAny_forIn_list f I Q turn fin _ b h
theorem tuple_index (l : Addr) (items : Array Value) (n : Nat) (dd : Option Addr) (sl : Array (Option Value)) (x : Value) (e : Value -> Bool) (he : ∀ y, y ∈ items -> EqGives y x (e y)) (j : Nat) (hj : j < items.size) (hit : e items[j] = true) (hno : ∀ m (hm : m < items.size), m < j -> e items[m] = false) :
    Meets (Builtin.«tuple.index» ⟨[.ref l, x], []⟩)
      (fun _ R s => s.heap.get? l = some { cls := .type "tuple", dict := dd, data := .seq items n, slots := sl } /\ R (.ok (.ret (.int j s.toks))) { s with toks := s.toks + 1 }) :=
  .of_wp fun prog w A R s h => by
    obtain ⟨hp, g, d, tk, os⟩ := s; obtain ⟨hl, h⟩ := h
    wp_walk using AutoSeq1.wpAny_loadPart' hl, wpAny_forIn_rng _ (fun rest b s' => b = (none, ()) /\ s' = ⟨hp, g, d, tk, os⟩ /\ ∃ i, i <= j /\ rest = List.range' i (items.size - i)) _
    case turn =>
      rintro m rest b s' ⟨rfl, rfl, i, hi, er⟩
      rw [show items.size - i = (items.size - i - 1) + 1 by omega, List.range'_succ] at er
      injection er with e1 e2
      subst e1
      have hlt : m < items.size := by omega
      rw [Array.getElem?_eq_getElem hlt]
      refine wpAny_bind (he _ (Array.getElem_mem hlt) prog w _ _ _ _ ?_)
      by_cases c : m = j
      · subst c
        rw [hit]
        wp_walk
        exact ⟨_, rfl, h⟩
      · rw [hno m hlt (by omega)]
        wp_walk
        exact ⟨rfl, rfl, m + 1, by omega, by rw [e2]; congr 1⟩
    case fin =>
      rintro b s' ⟨rfl, rfl, i, hi, er⟩
      have := congrArg List.length er
      simp at this
      omega
    case h => exact ⟨rfl, rfl, 0, Nat.zero_le _, by rw [Nat.min_self]; rfl⟩
section
variable {X : Cx}
def rIndexT (K : PySem.W.Frag) : V -> List V -> Hp -> VK -> Prop := fun x vs H Q => ∃ (l : Addr) (ns : List Int) (k : Int) (j : Nat), x = .ref l /\ vs = [.int k] /\ SqT K H l (ns.map V.int) /\ ns[j]? = some k /\ (∀ m, m < j -> ns[m]? ≠ some k) /\ Q (.int (j : Int)) H
theorem mt_tindex : MtR X "tuple.index" (rIndexT X.K) := by
  intro pins s σ H x vs v us Q I rx rv h
  obtain ⟨l, ns, k, j, rfl, rfl, hH, hj, hno, q⟩ := h
  cases rx
  obtain ⟨u, rfl, t, rfl⟩ := rv.one
  obtain ⟨its, r, ⟨o, ho, hc, n, hd⟩, _⟩ := I.tuple hH
  obtain ⟨oc, od, dt, sl⟩ := o
  have e1 : oc = .type "tuple" := hc
  have e2 : dt = .seq its.toArray n := hd
  subst e1 e2
  have hl : ns.length = its.length := by have := r.length; rwa [List.length_map] at this
  have jl : j < ns.length := (List.getElem?_eq_some_iff.mp hj).1
  refine call_meets F.slot_tuple_index ⟨_, ho, rfl⟩ F.entry_tuple_index (F.args_tuple_index_2 _ _) (tuple_index l its.toArray n od sl (.int k t) (isK k) ?_ j (by rw [List.size_toArray]; omega) ?_ ?_) ⟨ho, ?_⟩
  · intro y hy
    obtain ⟨m, hm, rfl⟩ := List.mem_iff_getElem.mp (show y ∈ its by simpa using hy)
    obtain ⟨t', a, _, e2⟩ := ints_at r hm
    rw [e2]
    exact MeetsSeq.EqGives.int a k t' t
  · show isK k its[j] = true
    obtain ⟨t', a, e1, e2⟩ := ints_at r (show j < its.length by omega)
    rw [e2]
    rw [hj] at e1
    cases e1
    exact beq_self_eq_true k
  · intro m hm hmj
    show isK k its[m] = false
    obtain ⟨t', a, e1, e2⟩ := ints_at r (show m < its.length by omega)
    rw [e2]
    show (a == k) = false
    rw [beq_eq_false_iff_ne]
    intro z
    exact hno m hmj (by rw [e1, z])
  · exact ⟨.int (j : Int), H, I.tok _, ⟨_, rfl⟩, q⟩
end
structure SrcD (K : PySem.W.Frag) (mg : Str -> Option Value) (x : Str) (st : Stmt) (ps : List Str) : Prop where
  ex : ∃ (f T : Addr) (oc : Value) (od : Option Addr) (kV doc pm : Value) (an : Option Addr) (cdv ct : Value) (osl : Array (Option Value)) (o : Obj) (n : Nat),
    K.lookup f = some ⟨oc, od, .func (PySem.W.fnOf x x (defArgs st) (defBody st) (defScope st) (.ref T) kV doc pm an cdv ct), osl⟩ /\ PySem.W.codeIn K cdv x = true /\ PySem.W.keepIn K (.ref f) = true /\ mg x = some (.ref f) /\
    K.lookup T = some o /\ o.data = .seq #[.none] n /\
    (∀ us : List Value, us.length = ps.length -> ∃ k : Option (Array Value) -> Sem (List (Str × Value)), bindArgs (PySem.W.fnOf x x (defArgs st) (defBody st) (defScope st) (.ref T) kV doc pm an cdv ct) ⟨us, []⟩ = seqItems? (.ref T) >>= k /\ k (some #[.none]) = pure (ps.zip us)) /\
    (∀ us : List Value, us.length + 1 = ps.length -> ∃ k : Option (Array Value) -> Sem (List (Str × Value)), bindArgs (PySem.W.fnOf x x (defArgs st) (defBody st) (defScope st) (.ref T) kV doc pm an cdv ct) ⟨us, []⟩ = seqItems? (.ref T) >>= k /\ k (some #[.none]) = pure (ps.zip (us ++ [.none])))
structure DefD (P : Program) (w : World) (K : PySem.W.Frag) (mg : Str -> Option Value) (base : Heap) (k : Nat) (x : Str) (ps : List Str) (sp : Sp) : Prop where
  ex : ∃ f fd, FnOk P w K mg base (CXr P w) k f fd ps sp /\ Binds K fd ps [] /\ Binds K fd ps [.none] /\ mg x = some (.ref f) /\ PySem.W.keepIn K (.ref f) = true
theorem SrcD.defX {P : Program} {w : World} {K : PySem.W.Frag} {mg : Str -> Option Value} {base : Heap} {k : Nat} {x : Str} {st : Stmt} {N ps : List Str} {sp : Sp} (S : SrcD K mg x st ps) (sc : FnScope N ps (defScope st)) (len : ∀ vs H Q E, sp vs H Q E -> vs.length = ps.length)
    (hbody : ∀ (f : Addr) (cdv : Value) (A : Around) (outer : List Env) (s : Shared) (H : Hp) (vs : List V) (Q : VK) (E : XK), Room k (A.deeper (envOfC x (defScope st) s.heap.objs.size f cdv)) -> sp vs H Q E ->
      ∃ t, PSs (cxOf (CXr P w) P w K mg base N x (defScope st) f cdv A outer s H E) (defBody st) t /\ t { nx := fun _ H' => Q .non H', rt := Q } (start N vs) H) : DefD P w K mg base (k + 1) x ps sp := by
  obtain ⟨f, T, oc, od, kV, doc, pm, an, cdv, ct, osl, o, n, lk, hcd, kp, m, hT, hd, b0, b1⟩ := S.ex
  refine ⟨f, _, fn_of lk hcd sc len (hbody f cdv), fun s us X hl => ?_, fun s us X hl => ?_, m, kp⟩
  · rw [List.append_nil] at hl ⊢
    obtain ⟨k, e1, e2⟩ := b0 us hl
    exact PySem.W.binds_K X rfl hT hd e1 e2
  · obtain ⟨k, e1, e2⟩ := b1 us (by rw [List.length_append] at hl; exact hl)
    exact PySem.W.binds_K X rfl hT hd e1 e2
theorem pe_defD {X : Cx} {k : Nat} {x : Str} {ps : List Str} {sp : Sp} {e : Expr} {es : List Expr} {t : TA} {p pos : Pos} (D : DefD X.prog X.w X.K X.mg X.base k x ps sp) (hr : Room k X.A) (hg : Gl X x) (ha : PA X (e :: es) t)
    (hdb : (x == ("__debug__" : Str)) = false := by decide) (he : starEach (e :: es) X.env = (false, eval e X.env) :: starEach es X.env := by rfl) (hpl : (backTo pos (starEach es X.env)).any (·.1) = false := by rfl) :
    PE X (.Call (.Name x p) (e :: es) [] pos) (tCall sp [] E0 t) := by
  obtain ⟨f, fd, F, b, _, m, kp⟩ := D.ex
  exact pe_call F hr hg m kp b .nil passX ha hdb he hpl
theorem pe_defD1 {X : Cx} {k : Nat} {x : Str} {ps : List Str} {sp : Sp} {e : Expr} {es : List Expr} {t : TA} {p pos : Pos} (D : DefD X.prog X.w X.K X.mg X.base k x ps sp) (hr : Room k X.A) (hg : Gl X x) (ha : PA X (e :: es) t)
    (hdb : (x == ("__debug__" : Str)) = false := by decide) (he : starEach (e :: es) X.env = (false, eval e X.env) :: starEach es X.env := by rfl) (hpl : (backTo pos (starEach es X.env)).any (·.1) = false := by rfl) :
    PE X (.Call (.Name x p) (e :: es) [] pos) (tCall sp [.non] E0 t) := by
  obtain ⟨f, fd, F, _, b, m, kp⟩ := D.ex
  exact pe_call F hr hg m kp b (.cons rfl .nil) passX ha hdb he hpl
end L2
namespace L2
open PySem PySem.Spec PyProof.Rows PySem.MeetsSeq
def FzT (H : Hp) (a : Addr) (xs : List V) : Prop := ∃ o : Obj, o.cls = .type "tuple" /\ o.dict = none /\ H a = some (.frz o (.tup xs))
theorem FzT.sq {K : PySem.W.Frag} {H : Hp} {a : Addr} {xs : List V} (h : FzT H a xs) : SqT K H a xs := let ⟨o, _, _, e⟩ := h; .inl (.inr ⟨o, e⟩)
theorem FzT.same {H H' : Hp} {a : Addr} {xs : List V} (h : FzT H a xs) (s : Same H H') : FzT H' a xs := let ⟨o, c, d, e⟩ := h; ⟨o, c, d, s _ _ e⟩
theorem FzT.new {H : Hp} {a : Addr} {xs : List V} {o : Obj} (c : o.cls = .type "tuple") (d : o.dict = none) : FzT (upd H a (.frz o (.tup xs))) a xs := ⟨o, c, d, upd_same⟩
section
variable {X : Cx}
def tBMF (r : V -> List V -> Hp -> VK -> Prop) (to : TE) (t : TA) : TE := fun σ H Q => to σ H fun x H1 => (∃ a xs, x = .ref a /\ FzT H1 a xs) /\ t σ H1 fun xs H2 => r x xs H2 Q
variable {o e : Expr} {es : List Expr} {to : TE} {t : TA} {name : Str} {apos cpos : Pos} {id : String} {r : V -> List V -> Hp -> VK -> Prop}
theorem pe_bmF (pa : PlainAttrs "tuple") (slot : Slot "tuple" name id) (hty : typeOf (.builtin id) = pure (.type "method_descriptor")) (hm : MtR X id r) (ho : PE X o to) (ha : PA X (e :: es) t)
    (hbase : attributeBase o name X.env (eval o X.env) = eval o X.env := by rfl)
    (hfew : ((backTo cpos (starEach (e :: es) X.env)).all (fun x => !x.1) && (backToKw cpos (keywordEach [] X.env)).all (fun x => x.1.isSome)
      && decide ((e :: es).length + ([] : List Keyword).length + (if ([] : List Keyword).isEmpty then 0 else 1) < 30)) = true := by rfl)
    (hline : (apos.endLine == cpos.line) = true := by rfl) (hs : starEach (e :: es) X.env = (false, eval e X.env) :: starEach es X.env := by rfl) (hplain : (backTo cpos (starEach es X.env)).any (·.1) = false := by rfl) :
    PE X (.Call (.Attribute o name apos) (e :: es) [] cpos) (tBMF r to t) := by
  intro pins s σ H Q I h
  refine wpAny_Call_method_late hbase hfew hline rfl (thn (ho pins s σ H _ I h) fun v s1 ⟨x, H1, I1, r1, ⟨a, xs, ex, ob, oc, od, eH⟩, q1⟩ => ?_)
  subst ex
  have hg : s1.heap.get? a = some ob := (I1.hok a _ eH).1
  cases (show v = Value.ref a from r1)
  refine ⟨"tuple", id, pa, slot, hty, ⟨ob, hg, oc⟩, (fun b eb => by cases eb; exact ⟨ob, hg, od⟩), ?_⟩
  have hA := ha cpos pins s1 σ H1 _ I1 q1
  rw [hs] at hA ⊢
  refine Calls.callWith_builtin (by show (false || (backTo cpos (starEach es X.env)).any (·.1)) = false; rw [hplain] <;> rfl) (Calls.evalArgs_plain ?_)
  exact thn hA fun us s2 ⟨vs, H2, I2, r2, q2⟩ => hm pins s2 σ H2 (.ref a) vs (.ref a) us Q I2 rfl r2 q2
theorem call_tupleF : CallR X (.type "tuple") (fun xs H Q => ∃ p ys, xs = [.ref p] /\ ((SqL X.K H p ys /\ ∀ l o, o.cls = .type "tuple" -> o.dict = none -> H l = none -> Q (.ref l) (upd H l (.frz o (.tup ys)))) \/ (SqT X.K H p ys /\ Q (.ref p) H))) := by
  intro pins s σ H xs us Q I r h
  obtain ⟨p, ys, rfl, h⟩ := h
  obtain ⟨u, rfl, rx⟩ := vals1 r
  cases rx
  rcases h with ⟨hq, q⟩ | ⟨hq, q⟩
  · obtain ⟨its, r', pl, hz⟩ := I.list hq
    have hlen := r'.length
    refine call_tuple_list pl.isList (fun h' kp => ?_) (by simp only [List.size_toArray] <;> lia)
    have I1 : Inv X pins σ H { s with heap := h' } := I.kept (t' := s.toks) kp
    have I2 : Inv X pins σ (upd H h'.objs.size (.frz { cls := .type "tuple", data := .seq its.toArray } (.tup ys))) { s with heap := h'.push { cls := .type "tuple", data := .seq its.toArray } } :=
      I1.laid (t' := s.toks) (fun b o e => Heap.get?_push_of_some _ e) (Nat.le_refl _) (show ObjOk X.prog X.w _ _ _ (.frz _ (.tup ys)) from ⟨Heap.get?_push_size _ rfl, hz, its, r', IsTup.new _ _⟩)
    exact ⟨.ref h'.objs.size, _, I2, rfl, q _ _ rfl rfl (I1.hok.fresh (Nat.le_refl _))⟩
  · obtain ⟨its, r', pl, hz⟩ := I.tuple hq
    exact call_tuple_same pl ⟨.ref p, H, I, rfl, q⟩
theorem call_tuple_rngF (hc : X.calm = true) : CallR X (.type "tuple") (fun xs H Q => ∃ (p : Addr) (n : Nat), xs = [.ref p] /\ H p = some (.rng 0 n) /\ n <= 1000 /\ ∀ l o, o.cls = .type "tuple" -> o.dict = none -> H l = none -> Q (.ref l) (upd H l (.frz o (.tup (upN n))))) := by
  intro pins s σ H xs us Q I r h
  obtain ⟨p, n, rfl, hp, hn, q⟩ := h
  obtain ⟨u, rfl, ru⟩ := Vals.one r
  cases (show u = Value.ref p from ru)
  obtain ⟨t1, t2, t3, e⟩ := I.hok p _ hp
  refine callType_new F.called_tuple (by decide) (F.typeCall_tuple_1 _) (F.newCall_tuple_1 _) (fun obj => F.args_object_init_2 obj _) F.entry_tuple_new
    (new_tuple_range p 0 n 1 t1 t2 t3 n (small_one (by decide) (by decide) (by lia) (by lia)) (size1 n) (by lia)) ⟨⟨I.ok.hd hc, e⟩, fun h' tk acc hk hz hacc => ⟨⟨_, Heap.get?_push_size _ rfl, rfl⟩, ?_⟩⟩
  have ge : s.heap.objs.size <= h'.objs.size := Nat.le_of_lt hz
  refine ⟨.ref h'.objs.size, upd H h'.objs.size (.frz { cls := .type "tuple", data := .seq acc } (.tup (upN n))), I.laid (fun b o e => Heap.get?_push_of_some _ (hk b o e)) ge ?_, rfl, q _ _ rfl rfl (I.hok.fresh ge)⟩
  refine ⟨Heap.get?_push_size _ rfl, by unfold upN; rw [List.length_map, List.length_range]; exact Nat.le_trans hn (by decide), acc.toList, items_up hacc, _, Heap.get?_push_size _ rfl, rfl, 0, by simp⟩
def rIsTsF (K : PySem.W.Frag) : List V -> Hp -> VK -> Prop := fun xs H Q => ∃ (a p : Addr) (cs ys : List V) (T : String) (b : Bool), xs = [.ref a, .ref p] /\ SqT K H p cs /\ ((H a = some (.lst ys) /\ T = "list") \/ (FzT H a ys /\ T = "tuple")) /\ (∀ us, Vals cs us -> PySem.W.kitAny K (.type T) us = some b) /\ Q (.bl b) H
theorem call_isTsF : CallR X (.builtin "isinstance") (rIsTsF X.K) := by
  intro pins s σ H xs us Q I r h
  obtain ⟨a, p, cs, ys, T, b, rfl, hp, ha, e, q⟩ := h
  obtain ⟨v1, v2, rfl, r1, r2⟩ := Vals.two r
  cases (show v1 = Value.ref a from r1)
  cases (show v2 = Value.ref p from r2)
  obtain ⟨its, rv, ⟨o, ho, hc, n, hd⟩, _⟩ := I.tuple hp
  obtain ⟨oc, od, dt, sl⟩ := o
  have e1 : oc = .type "tuple" := hc
  have e2 : dt = .seq its.toArray n := hd
  subst e1 e2
  rcases ha with ⟨ea, rfl⟩ | ⟨⟨ob, c1, _, ea⟩, rfl⟩
  · obtain ⟨_, _, n, _, h1⟩ := (show ObjOk X.prog X.w H s.heap a (.lst ys) from I.hok a _ ea)
    exact PySem.W.kia_tup PySem.W.kitx_list I.kIn ⟨_, h1, rfl⟩ ho (e its rv) (by intro z; cases z) fun tk => ⟨.bl b, H, I.tok _, rfl, q⟩
  · exact PySem.W.kia_tup PySem.W.kitx_tuple I.kIn ⟨ob, (I.hok a _ ea).1, c1⟩ ho (e its rv) (by intro z; cases z) fun tk => ⟨.bl b, H, I.tok _, rfl, q⟩
end
end L2
namespace HT
open PySem PySem.Spec PyProof.Rows
section
variable {prog : Program} {w : World} {A : Around} {E : Value -> Shared -> Prop} {s : Shared}
end
end HT
namespace L2
open PySem PySem.Spec PyProof.Rows
section
variable {X : Cx}
end
end L2
namespace L2
open PySem PySem.Spec PyProof.Rows
section
open PySem.SeqAt
open PySem.AutoSeq1 (wpAny_loadPart')
open PySem.MeetsSeq PySem.MeetsSeq2 PySem.MeetsSeq3
end
end L2
namespace L2
open PySem PySem.W PyProof.Rows
section
variable {prog : Program} {w : World} {A : Around} {E : Value -> Shared -> Prop} {s : Shared}
end
section
variable {X : Cx}
end
end L2
namespace L2
open PySem PySem.Spec PyProof.Rows
section
variable {env : Env} {C : Addr} {names : List (Str × NameKind)} {x : Str} {d : Addr}
end
section
variable {X : Cx} {scope : Scope} {N' : List Str} {fr : List (Option Nat)} {pins : List (Addr × Obj)} {σ : St} {H : Hp} {s : Shared} {fp : List Addr}
end
section
variable {X : Cx} {scope : Scope} {N' : List Str} {fr : List (Option Nat)} {pins : List (Addr × Obj)} {σ : St} {H : Hp} {s : Shared} {fp : List Addr} {it : Addr} {tn : Nat -> Heap -> Prop} {J : It}
  {elt tg iter : Expr} {ifs : List Expr} {g : TG} {tt : TT} {te : TE} {pos : Pos} {fin : List V -> Hp -> Prop} {W : Nat -> Nat -> List V -> St -> Hp -> Prop} {RR : Value -> Addr -> Result -> Shared -> Prop} {E : Value -> Shared -> Prop}
end
end L2
namespace L2
open PySem PySem.Spec PyProof.Rows PySem.MeetsSeq PySem.AutoSeq1
end L2
namespace L2
open PySem PySem.Spec PyProof.Rows
section
variable {X : Cx}
end
def rLenK (K : PySem.W.Frag) : List V -> Hp -> VK -> Prop := fun xs H Q => ∃ p ys, xs = [.ref p] /\ (SqL K H p ys \/ SqT K H p ys) /\ Q (.int ys.length) H
def rIsiK (K : PySem.W.Frag) : List V -> Hp -> VK -> Prop := fun xs H Q => ∃ x c t u b, xs = [x, c] /\ RelV c u /\ TyOf K H x t /\ PySem.W.kitOne K t u = some b /\ Q (.bl b) H
def rTupOfK (K : PySem.W.Frag) : List V -> Hp -> VK -> Prop := fun xs H Q => ∃ p ys, xs = [.ref p] /\ ((SqL K H p ys /\ ∀ l, H l = none -> Q (.ref l) (upd H l (.tup ys))) \/ (SqT K H p ys /\ Q (.ref p) H))
def rListOfK (K : PySem.W.Frag) : List V -> Hp -> VK -> Prop := fun xs H Q => ∃ p ys, xs = [.ref p] /\ (SqL K H p ys \/ SqT K H p ys) /\ ∀ l, H l = none -> Q (.ref l) (upd H l (.lst ys))
theorem seq_abs {A B : TS} {D : Ends} {σ : St} {H : Hp} (h : ∀ M : St -> Hp -> Prop, (∀ σ H, B D σ H -> M σ H) -> A { D with nx := M } σ H) : tSeq A B D σ H := h _ fun _ _ z => z
section
variable {X : Cx} (K : PySem.W.Frag)
theorem ix_listK (h : X.K = K := by rfl) : IxR X (rIxL K) := h ▸ ix_list
theorem ix_tupK (h : X.K = K := by rfl) : IxR X (rIxT K) := h ▸ ix_tup
theorem sl_listK (h : X.K = K := by rfl) : SlR X (rSlL K) := h ▸ sl_list
theorem sl_tupK (h : X.K = K := by rfl) : SlR X (rSlT K) := h ▸ sl_tup
theorem call_lenK (h : X.K = K := by rfl) : CallR X (.builtin "len") (rLenK K) := h ▸ call_len_seq
theorem call_isiK (h : X.K = K := by rfl) : CallR X (.builtin "isinstance") (rIsiK K) := h ▸ call_isinst
theorem call_tuple_ofK (h : X.K = K := by rfl) : CallR X (.type "tuple") (rTupOfK K) := h ▸ call_tuple_of
theorem call_list_ofK (h : X.K = K := by rfl) : CallR X (.type "list") (rListOfK K) := h ▸ call_list_of
theorem op_neNilK (hu : X.A.units + 66 < cLine) (h : X.K = K := by rfl) : OpR X (compareOp .NotEq) (rNil K true) := h ▸ op_neNil hu
theorem op_eqSK (hu : X.A.units + 66 < cLine) (h : X.K = K := by rfl) : OpR X (compareOp .Eq) (rSame K true) := h ▸ op_eqS hu
theorem op_neSK (hu : X.A.units + 66 < cLine) (h : X.K = K := by rfl) : OpR X (compareOp .NotEq) (rSame K false) := h ▸ op_neS hu
theorem op_catAK (h : X.K = K := by rfl) : OpR X (binaryOp .Add) (rCatA K) := h ▸ op_catA
theorem pi_seqK {tg : Expr} (k : Kd) {l : Expr} {tl : TE} (hl : PE X l tl) (h : X.K = K := by rfl) : PI X tg l (iSeq k K tl) := h ▸ pi_seq k hl
theorem pg_tupK (n : Nat) {es : List Expr} {k : Nat} {t : TGs} {pos : Pos} (hc : X.calm = true) (h : PGs X es t)
    (hn : (assignEach es X.env).length = n := by rfl) (hst : (assignEach es X.env).findIdx? (·.1) = none := by rfl) (hK : X.K = K := by rfl) : PG X (.Tuple es k pos) (gTup K n t) := hK ▸ pg_tup hc h hn hst
end
section
variable {X : Cx}
end
structure Mk0 (K : PySem.W.Frag) (C : Addr) : Prop where
  makes : PySem.W.makesIn K C = true
  init : PySem.W.findIn K (.ref C) "__init__" = some (some (.builtin "object.__init__"))
  kp : PySem.W.keepIn K (.ref C) = true
theorem bind_oinit {M : Model} {h : Heap} (self : Value) : PySem.W.Looks M h (bindSpecial (.builtin "object.__init__") self) (.builtin "object.__init__", [self]) := fun A Q E s _ q => by
  have e : typeOf (.builtin "object.__init__") = (pure (.type "wrapper_descriptor") : Sem Value) := by first | rfl | decide
  unfold bindSpecial
  rw [e]
  refine wpAny_bind (wpAny_pure ?_)
  rw [if_pos (by decide)]
  exact wpAny_pure q
def tMakeE (C : Addr) : TE := fun σ H Q => ∀ x dx, H x = none -> H dx = none -> dx ≠ x -> Q (.ref x) (upd (upd H dx (.own x)) x (.ins C dx []))
section
variable {X : Cx}
theorem pe_makeE {C : Addr} {x : Str} {p pos : Pos} (M : Mk0 X.K C) (hg : Gl X x) (hm : X.mg x = some (.ref C)) (hdb : (x == ("__debug__" : Str)) = false := by decide) : PE X (.Call (.Name x p) [] [] pos) (tMakeE C) := by
  intro pins s σ H Q I h
  refine wpAny_Call_Name_kw (ld_glob I hg hm ?_ hdb)
  refine PySem.W.callWith_K0 I.kIn M.kp ?_
  have hq := h (s.heap.objs.size + 1) s.heap.objs.size (I.hok.fresh (Nat.le_succ _)) (I.hok.fresh (Nat.le_refl _)) (Nat.ne_of_lt (Nat.lt_succ_self _))
  have I2 := Inv.made (C := C) I
  refine wpAny_call (make_map0 I.kIn M.makes M.init bind_oinit ?_)
  refine codeAny_call_builtin (by decide +kernel) F.entry_object_init ?_
  have hx : ((s.heap.push PySem.W.emptyDict).push (PySem.W.instObj C s.heap.objs.size)).get? (s.heap.objs.size + 1) = some (PySem.W.instObj C s.heap.objs.size) := by
    have := Heap.get?_push_size (s.heap.push PySem.W.emptyDict) (o := PySem.W.instObj C s.heap.objs.size) rfl
    rw [Heap.size_push] at this
    exact this
  have mk := PySem.W.makes_of (M := model X.prog X.w) I2.kIn M.makes
  have li : PySem.W.Looks (model X.prog X.w) ((s.heap.push PySem.W.emptyDict).push (PySem.W.instObj C s.heap.objs.size)) (isInstance (.ref (s.heap.objs.size + 1)) (.type "object")) true := fun A' Q' E' s' hk q' => by
    have hx' := hk _ _ hx
    have tp := mk.top A' Q' E' s' hk q'
    unfold isInstance
    repeat (first | exact tp | (with_reducible refine wpAny_loadPart_at hx' ?_) | wp_step)
  refine PySem.W.check_slot (i := "object.__init__") (owner := "object") (n := "__init__") (by decide +kernel) (by decide +kernel) li (F.args_object_init_1 _) ?_
  show wpAny _ _ (PySem.ret PySem.Value.none) _ _ _
  refine wpAny_pure ?_
  exact ⟨rfl, .ref (s.heap.objs.size + 1), _, I2, rfl, hq⟩
end
def tMethA (X : Cx) (m : Str) (ta : TE) : TE := fun σ H Q => ta σ H fun x H1 => ∃ a C dx fs, x = .ref a /\ H1 a = some (.ins C dx fs) /\ fs.lookup m = none /\
  ∃ (k : Nat) (f : Addr) (fd : FuncData) (ps : List Str) (sp : Sp), Cls X.K C /\ Meth X.K C m f /\ FnOk X.prog X.w X.K X.mg X.base CX0 k f fd ps sp /\ Room k X.A /\ Binds X.K fd ps [] /\ sp [x] H1 Q E0
section
variable {X : Cx} {m : Str} {apos pos : Pos} {o : Expr} {ta : TE}
theorem pe_methA {pl : Sem Bool} (he : PE X o ta)
    (ht : eval (.Call (.Attribute o m apos) [] [] pos) X.env = (do
      let ov <- eval o X.env
      standAt apos.atName
      let (f, first) <- holding [ov] (getMethod ov m pl)
      callWith pos f first (backTo pos (starEach [] X.env)) (backToKw pos (keywordEach [] X.env))) := by rfl) :
    PE X (.Call (.Attribute o m apos) [] [] pos) (tMethA X m ta) := by
  intro pins s σ H Q I h
  refine PySem.W.methodCall_KW (pl := pl) (thn (he pins s σ H _ I h) fun u s1 ⟨x, H1, I1, rx, a, C, dx, fs, ex, ea, l, k, f, fd, ps, sp, c, hm, F, hr, hb, q⟩ => ?_) ht
  subst ex
  obtain rfl : u = Value.ref a := rx
  refine getmeth_ok I1 ea c hm l ?_
  exact PySem.W.callWith_K0 (first := [.ref a]) I1.kIn hm.kp (run_fn (us := [.ref a]) (vs := [.ref a]) F hr hb .nil pass0 I1 (.cons rfl .nil) q)
end
section
variable {X : Cx}
def rSlTF (K : PySem.W.Frag) : V -> Option Int -> Option Int -> Hp -> VK -> Prop := fun x lo hi H Q => ∃ a xs, x = .ref a /\ SqT K H a xs /\
  ¬ (HT.sIx xs.length 0 lo = 0 /\ HT.sIx xs.length xs.length hi = xs.length) /\ ∀ p H', Same H H' -> FzT H' p (cutV xs lo hi) -> Q (.ref p) H'
theorem sl_tupF : SlR X (rSlTF X.K) := by
  intro pins s σ H x v vl vu lo hi sl Q I rx hs pl pu h
  obtain ⟨a, xs, rfl, hx, hw, q⟩ := h
  cases rx
  obtain ⟨its, r, ht, hz⟩ := I.tuple hx
  have hlen : its.toArray.size = xs.length := by rw [List.size_toArray]; exact r.length.symm
  refine ⟨"tuple", _, PyProof.Rows.slot_tuple_getitem.lookup, ht.typeIs, ?_⟩
  refine HT.getItem_tuple_cut ht hs pl pu (by rw [hlen]; exact hw) ?_ (by rw [hlen]; exact hz)
  rw [hlen]
  have fr := I.hok.fresh (a := s.heap.objs.size) (Nat.le_refl _)
  refine ⟨.ref s.heap.objs.size, upd H s.heap.objs.size (.frz { cls := .type "tuple", data := .seq ((its.toArray.toList.drop (HT.sIx xs.length 0 lo)).take (HT.sIx xs.length xs.length hi - HT.sIx xs.length 0 lo)).toArray } (.tup (cutV xs lo hi))), I.laid (t' := s.toks) (fun b ob q => Heap.get?_push_of_some _ q) (Nat.le_refl _) ?_, rfl, q _ _ (Same.new fr) ⟨_, rfl, rfl, upd_same⟩⟩
  exact ⟨Heap.get?_push_size _ rfl, Nat.le_trans (cutV_length xs lo hi) hz, _, (r.drop (HT.sIx xs.length 0 lo)).take (HT.sIx xs.length xs.length hi - HT.sIx xs.length 0 lo), IsTup.new _ _⟩
def rCatF (K : PySem.W.Frag) : R2 := fun x y H Q => ∃ a b xs ys, x = .ref a /\ y = .ref b /\ FzT H a xs /\ FzT H b ys /\ xs.length + ys.length <= sizeLine /\ ∀ p H', Same H H' -> FzT H' p (xs ++ ys) -> Q (.ref p) H'
theorem op_catF : OpR X (binaryOp .Add) (rCatF X.K) := by
  intro pins s σ H x y v u Q I rx ry h
  obtain ⟨a, b, xs, ys, rfl, rfl, ha, hb, hz, q⟩ := h
  by_cases hx : xs = []
  · subst hx
    exact op_cat0 pins s σ H _ _ v u Q I rx ry ⟨a, b, ys, rfl, rfl, ha.sq, hb.sq, q b H (Same.refl H) hb⟩
  · cases rx
    cases ry
    obtain ⟨its, r1, p1, _⟩ := I.tuple (FzT.sq (K := X.K) ha)
    obtain ⟨its2, r2, p2, _⟩ := I.tuple (FzT.sq (K := X.K) hb)
    refine HT.cat_tup p1 p2 (fun z => hx (r1.nil_iff.mp z)) (fun z => ⟨.ref a, H, I, rfl, q a H (Same.refl H) (by rw [r2.nil_iff.mp z, List.append_nil]; exact ha)⟩) (fun z => ?_) (by rw [<- r1.length, <- r2.length]; exact hz)
    have fr := I.hok.fresh (a := s.heap.objs.size) (Nat.le_refl _)
    refine ⟨.ref s.heap.objs.size, upd H s.heap.objs.size (.frz { cls := .type "tuple", data := .seq (its ++ its2).toArray } (.tup (xs ++ ys))), I.laid (t' := s.toks) (fun b ob q => Heap.get?_push_of_some _ q) (Nat.le_refl _) ?_, rfl, q _ _ (Same.new fr) ⟨_, rfl, rfl, upd_same⟩⟩
    exact ⟨Heap.get?_push_size _ rfl, by rw [List.length_append]; exact hz, _, r1.append r2, IsTup.new _ _⟩
end
section
variable {X : Cx}
end
end L2
namespace L2
open PySem PySem.W PyProof.Rows
section
variable {X : Cx}
end
end L2
namespace L2
open PySem PySem.W PyProof.Rows
section
variable {prog : Program} {w : World} {A : Around} {E : Value -> Shared -> Prop} {s : Shared}
end
end L2
namespace L2
open PySem PySem.W PyProof.Rows
section
variable {X : Cx}
end
end L2
namespace L2
open PySem PySem.W PyProof.Rows
section
variable {X : Cx} {pos : Pos}
end
end L2
namespace L2
open PySem PySem.SetTable
def nx (m i : Nat) : Nat := (i * 5 + 1) % (m + 1)
end L2
namespace L2
open PySem PySem.SetTable
def lv (m : Nat) (o : Array (Option Nat)) : List (Nat × Nat) := (List.range (m + 1)).filterMap fun j => (o.getD j none).map (j, ·)
end L2
namespace L2
open PySem PySem.SetTable
section
variable {prog : Program} {w : World} {A : Around} {E : Value -> Shared -> Prop} {s : Shared}
end
end L2
namespace L2
open PySem PySem.SetTable
section
variable {prog : Program} {w : World} {A : Around} {E : Value -> Shared -> Prop} {s : Shared} {a b : Addr} {o : Obj} {es : Array (Int × Value)} {ep : Nat} {t : SetTable} {kx : List Int}
end
end L2
namespace L2
open PySem PySem.SetTable PyProof.Rows
section
variable {prog : Program} {w : World} {G : Value -> List Int -> Prop} {A : Around} {E : Value -> Shared -> Prop} {s : Shared} {a b : Addr} {led : Bool} {kss : List (List Int)} {kx : List Int}
end
end L2
namespace L2
open PySem PySem.Spec PyProof.Rows
section
variable {prog : Program} {w : World} {A : Around} {R : Result -> Shared -> Prop} {I : Addr} {fp wr : List Addr} {G : Array GenState -> Array GenState -> Prop} {n : Nat} {P : Nat -> Value -> Prop} {St : Nat -> Shared -> Prop}
end
section
variable {prog : Program} {w : World} {A : Around} {E : Value -> Shared -> Prop} {s : Shared}
set_option maxHeartbeats 8000000 in
end
end L2
namespace L2
open PySem PySem.W PyProof.Rows
section
variable {prog : Program} {w : World} {A : Around} {E : Value -> Shared -> Prop} {s : Shared} {a : Addr} {kss : List (List Int)} {G : Value -> List Int -> Prop}
end
section
variable {X : Cx}
end
end L2
namespace L2
open PySem PySem.W PyProof.Rows
section
variable {X : Cx}
end
end L2
namespace L2
open PySem PySem.W PyProof.Rows
section
variable {X : Cx}
end
end L2
namespace L2
open PySem PySem.Spec PyProof.Rows PySem.W
end L2
namespace L2
open PySem PySem.Spec PyProof.Rows PySem.W
section
variable {P : Program} {w : World} {K : PySem.W.Frag} {mg : Str -> Option Value} {base : Heap} {N : List Str} {qual : Str} {scope : Scope} {f : Addr} {cd : Value} {A : Around} {outer : List Env} {s0 : Shared} {H0 : Hp} {E : XK}
end
section
variable {X : Cx}
end
section
variable {M : Model} {A : Around} {E : Value -> Shared -> Prop} {s : Shared}
end
section
variable {X : Cx}
end
end L2
namespace L2
open PySem PySem.Spec PyProof.Rows PySem.W
section
variable {K : Frag} {prog : Program} {w : World} {A : Around} {E : Value -> Shared -> Prop} {h : Heap} {g : Array GenState} {d : Drawn} {t : Nat} {os : OsState} {a C dx : Addr} {vs : Array Value} {sl : Array (Option Value)} {f : Str} {v : Value} {mA : Str -> Option Value} {cc : Value} {cdd : Option Addr} {cd : ClassData} {csl : Array (Option Value)}
end
section
variable {X : Cx} {e : Expr} {f : Str} {pos : Pos} {ta : TE}
end
end L2
namespace L2
open PySem PySem.Spec PyProof.Rows PySem.W
section
variable {K : Frag} {prog : Program} {w : World} {A : Around} {E : Value -> Shared -> Prop} {h : Heap} {g : Array GenState} {d : Drawn} {t : Nat} {os : OsState} {C fI : Addr} {oI : Obj} {bm : List Value}
end
end L2
namespace L2
open PySem PySem.Spec PyProof.Rows PySem.W PySem.Builtin PySem.Builtin.ObjectAttr
section
variable {K : Frag} {prog : Program} {w : World} {A : Around} {E : Value -> Shared -> Prop} {s : Shared} {a C : Addr} {vs : Array Value} {f : Str} {v : Value}
end
end L2
namespace L2
open PySem PySem.Spec PyProof.Rows PySem.W
section
variable {K : Frag} {prog : Program} {w : World} {A : Around} {E : Value -> Shared -> Prop} {h : Heap} {g : Array GenState} {d : Drawn} {t : Nat} {os : OsState} {e C : Addr} {bm : List Value}
end
section
variable {X : Cx}
end
end L2
namespace L2
open PySem PySem.Spec PyProof.Rows PySem.W
section
variable {P : Program} {w : World} {K : PySem.W.Frag} {mg : Str -> Option Value} {base : Heap} {N : List Str} {qual : Str} {scope : Scope} {f : Addr} {cd : Value} {A : Around} {outer : List Env} {s0 : Shared} {H0 : Hp} {E : XK}
end
section
variable {M : Model} {A : Around} {E : Value -> Shared -> Prop} {env : Env} {K : Frag} {C : Addr} {bm : List Value}
end
end L2
namespace L2
open PySem PySem.Spec PyProof.Rows PySem.W
section
variable {P : Program} {w : World} {K : PySem.W.Frag} {mg : Str -> Option Value} {base : Heap} {N : List Str} {qual : Str} {scope : Scope} {f : Addr} {cd : Value} {A : Around} {outer : List Env} {s0 : Shared} {H0 : Hp} {E : XK}
end
end L2
namespace L2
open PySem PySem.Spec PyProof.Rows
section
variable {prog : Program} {w : World} {A : Around} {R : Result -> Shared -> Prop} {s : Shared}
end
section
variable {X : Cx} {scope : Scope} {N' : List Str} {fr : List (Option Nat)} {pins : List (Addr × Obj)} {σ : St} {H : Hp} {s : Shared} {fp : List Addr} {it : Addr} {tn : Nat -> Heap -> Prop} {J : It}
  {elt tg iter : Expr} {ifs : List Expr} {g : TG} {tt : TT} {te : TE} {pos : Pos} {fin : List V -> Hp -> Prop} {W : Nat -> Nat -> List V -> St -> Hp -> Prop} {RR : Value -> Addr -> Result -> Shared -> Prop} {E : Value -> Shared -> Prop}
end
section
variable {M : Model} {A : Around} {E : Value -> Shared -> Prop} {s : Shared}
end
section
variable {P : Program} {w : World} {K : PySem.W.Frag} {mg : Str -> Option Value} {base : Heap} {N : List Str} {qual : Str} {scope0 : Scope} {f : Addr} {cd : Value} {A : Around} {outer : List Env} {s0 : Shared} {H0 : Hp} {E : XK}
variable {scope : Scope} {N' : List Str} {fr : List (Option Nat)} {elt tg iter : Expr} {ifs : List Expr} {g : TG} {tt : TT} {te : TE} {pos : Pos}
end
end L2
namespace L2
open PySem PySem.Spec PyProof.Rows PySem.Builtin PySem.Builtin.Str
section
variable {X : Cx}
end
end L2
namespace L2
open PySem PySem.Spec PyProof.Rows
section
variable {X : Cx}
end
section
variable {X : Cx} {pins : List (Addr × Obj)} {σ : St} {H : Hp} {s : Shared} {d : Addr} {kvs : TTab}
end
section
variable {X : Cx} {o : Expr} {to : TE} {apos cpos : Pos}
end
end L2
namespace L2
open PySem PySem.Spec PyProof.Rows PySem.W
section
variable {P : Program} {w : World} {K : PySem.W.Frag} {mg : Str -> Option Value} {base : Heap} {k : Nat} {x : Str} {ps : List Str} {sp : Sp}
end
section
variable {X : Cx}
end
end L2
namespace L2
open PySem PySem.Spec PyProof.Rows
section
variable {X : Cx}
end
section
variable {P : Program} {w : World} {K : PySem.W.Frag} {mg : Str -> Option Value} {base : Heap} {k : Nat} {x : Str} {ps : List Str} {sp : Sp}
end
end L2
namespace L2
open PySem PySem.Spec PyProof.Rows PySem.W
section
variable {X : Cx}
end
end L2
namespace L2
open PySem PySem.Spec PyProof.Rows
section
variable {prog : Program} {w : World} {A : Around} {E : Value -> Shared -> Prop} {s : Shared} {a : Addr} {led : Bool} {ns : List Int}
end
--T3
section
variable {prog : Program} {w : World} {A : Around} {R : Result -> Shared -> Prop} {I : Addr} {fp wr : List Addr} {G : Array GenState -> Array GenState -> Prop} {n : Nat} {P : Nat -> Value -> Prop} {St : Nat -> Shared -> Prop}
end
section
variable {prog : Program} {w : World} {A : Around} {E : Value -> Shared -> Prop} {s : Shared}
end
section
variable {prog : Program} {w : World} {A : Around} {E : Value -> Shared -> Prop} {s : Shared} {a : Addr}
end
section
variable {X : Cx}
end
end L2
namespace L2
open PySem PySem.Spec PyProof.Rows PySem.W
section
variable {P : Program} {w : World} {K : PySem.W.Frag} {mg : Str -> Option Value} {base : Heap} {k : Nat} {x : Str} {ps : List Str} {sp : Sp}
end
end L2
namespace L2
open PySem PySem.Spec PyProof.Rows
abbrev KTab := List (Key × V)
section
variable {X : Cx} {pins : List (Addr × Obj)} {σ : St} {H : Hp} {s : Shared} {d : Addr} {kvs : KTab}
end
section
variable {X : Cx} {o : Expr} {to : TE} {apos cpos : Pos}
end
end L2
namespace L2
open PySem PySem.W PyProof.Rows
theorem lexA : ∀ {a b : List Int}, HT.lexLt b a = false -> HT.lexLt a b = false -> a = b
  | [], [], _, _ => rfl
  | [], _ :: _, _, h => by cases h
  | _ :: _, [], h, _ => by cases h
  | x :: xs, y :: ys, h1, h2 => by
    rw [HT.lexLt_cons] at h1 h2
    by_cases e : x = y
    · subst e
      rw [if_pos rfl] at h1 h2
      rw [lexA h1 h2]
    · rw [if_neg (fun z => e z.symm)] at h1
      rw [if_neg e] at h2
      have a1 := of_decide_eq_false h1
      have a2 := of_decide_eq_false h2
      exact absurd (Int.le_antisymm (Int.not_lt.mp a1) (Int.not_lt.mp a2)) e
def nLt : List (List Int) -> List (List Int) -> Bool
  | [], [] => false
  | [], _ :: _ => true
  | _ :: _, [] => false
  | k :: ks, m :: ms => if k = m then nLt ks ms else HT.lexLt k m
theorem nLt_cons (k m : List Int) (ks ms : List (List Int)) : nLt (k :: ks) (m :: ms) = if k = m then nLt ks ms else HT.lexLt k m := rfl
theorem nLt_as : ∀ (a b : List (List Int)), nLt a b = true -> nLt b a = false
  | [], [], _ => rfl
  | [], _ :: _, _ => rfl
  | _ :: _, [], h => by cases h
  | k :: ks, m :: ms, h => by
    rw [nLt_cons] at h ⊢
    by_cases e : k = m
    · rw [if_pos e] at h
      rw [if_pos e.symm]
      exact nLt_as ks ms h
    · rw [if_neg e] at h
      rw [if_neg (fun z => e z.symm)]
      exact lex_as k m h
theorem nLt_tr : ∀ (a b c : List (List Int)), nLt b a = false -> nLt c b = false -> nLt c a = false
  | _, [], [], h1, _ => h1
  | [], _ :: _, [], _, h2 => by cases h2
  | [], _, _ :: _, _, _ => rfl
  | _ :: _, [], _ :: _, h1, _ => by cases h1
  | _ :: _, _ :: _, [], _, h2 => by cases h2
  | p :: ps, m :: ms, k :: ks, h1, h2 => by
    rw [nLt_cons] at h1 h2 ⊢
    by_cases e1 : m = p
    · rw [if_pos e1] at h1
      subst e1
      by_cases e2 : k = m
      · rw [if_pos e2] at h2 ⊢
        exact nLt_tr ps ms ks h1 h2
      · rw [if_neg e2] at h2 ⊢
        exact h2
    · rw [if_neg e1] at h1
      by_cases e2 : k = m
      · rw [if_pos e2] at h2
        subst e2
        rw [if_neg e1]
        exact h1
      · rw [if_neg e2] at h2
        by_cases e3 : k = p
        · subst e3
          exact absurd (lexA h1 h2).symm e1
        · rw [if_neg e3]
          exact lex_tr p m k h1 h2
theorem nLt_ord (L : List (List (List Int))) : Ord fun i j => nLt (L.getD i []) (L.getD j []) := ⟨fun _ _ h => nLt_as _ _ h, fun _ _ _ h1 h2 => nLt_tr _ _ _ h1 h2⟩
def NLe (a b : List (List Int)) : Prop := nLt b a = false
section
variable {prog : Program} {w : World} {A : Around} {E : Value -> Shared -> Prop} {s : Shared}
theorem items_of_ints : ∀ {us : List Value} {ks : List Int}, IntsAre us ks -> ItemsAre (intKind prog w) ks us
  | _, _, .nil => .nil
  | _, _, .cons n t h => .cons (show Value.isInt n (Value.int n t) = true from by show (n == n) = true; exact beq_self_eq_true n) (items_of_ints h)
theorem TupI.key {h : Heap} {a : Addr} {ks : List Int} (x : TupI h (.ref a) ks) : IsTupleKey (intKind prog w) h ks a := by
  obtain ⟨b, o, xs, n, e, g, hc, hd, hi⟩ := x
  cases e
  exact ⟨o, xs, n, g, hc, hd, items_of_ints hi⟩
def TupN (h : Heap) (v : Value) (kss : List (List Int)) : Prop := ∃ a o xs n, v = .ref a /\ h.get? a = some o /\ o.cls = .type "tuple" /\ o.data = .seq xs n /\ Paired (TupI h) xs.toList kss
theorem TupN.kept {h h' : Heap} {v : Value} {kss : List (List Int)} (x : TupN h v kss) (k : ∀ b u, h.get? b = some u -> h'.get? b = some u) : TupN h' v kss := let ⟨a, o, xs, n, e, g, c, d, r⟩ := x; ⟨a, o, xs, n, e, k _ _ g, c, d, Paired.mapP r fun _ _ z => z.kept k⟩
def lexN (fin : Bool) : List (List Int) -> List (List Int) -> Bool
  | k :: ks, m :: ms => if k = m then lexN fin ks ms else HT.lexLt k m
  | _, _ => fin
theorem lexN_eq : ∀ (a b : List (List Int)), lexN (decide (a.length < b.length)) a b = nLt a b
  | [], [] => rfl
  | [], _ :: _ => by show decide (0 < _ + 1) = true; simp
  | _ :: _, [] => by show decide (_ + 1 < 0) = false; simp
  | k :: ks, m :: ms => by
    show (if k = m then lexN _ ks ms else _) = _
    rw [nLt_cons]
    have : decide ((k :: ks).length < (m :: ms).length) = decide (ks.length < ms.length) := decide_eq_decide.mpr ⟨Nat.lt_of_succ_lt_succ, Nat.succ_lt_succ⟩
    rw [this, lexN_eq ks ms]
theorem tups_lex {fin : Bool} {Q : Bool -> Shared -> Prop} (hu : A.units < cLine) : ∀ {us : List Value} {ks : List (List Int)} {ws : List Value} {ms : List (List Int)} (i : Nat), Paired (TupI s.heap) us ks -> Paired (TupI s.heap) ws ms -> Q (lexN fin ks ms) s -> KatLex prog w A false fin Q (us.zip ws) i s
  | _, _, _, _, _, .nil, _, q => kat_nil (by cases ‹List (List Int)› <;> exact q)
  | _, _, _, _, _, .cons _ _, .nil, q => kat_nil q
  | _, _, _, _, i, .cons (b := k) (l₂ := ks) h1 t1, .cons (b := m) (l₂ := ms) h2 t2, q => by
    obtain ⟨a, o, xs, n, rfl, g, hc, hd, hi⟩ := id h1
    obtain ⟨b, o2, ys, n2, rfl, g2, hc2, hd2, hi2⟩ := id h2
    refine kat_cons (wpAny_eqBool_tuple (knd := intKind prog w) hu h1.key h2.key (kat_go (fun e => kat_yes (tups_lex hu (i + 1) t1 t2 ?_)) fun e => kat_no ?_))
    · have : k = m := of_decide_eq_true e
      have z : lexN fin (k :: ks) (m :: ms) = lexN fin ks ms := by show (if k = m then _ else _) = _; rw [if_pos this]
      rw [z] at q; exact q
    · have : ¬ k = m := of_decide_eq_false e
      have z : lexN fin (k :: ks) (m :: ms) = HT.lexLt k m := by show (if k = m then _ else _) = _; rw [if_neg this]
      rw [z] at q
      exact kat_one _ _ (HT.lt_tupInts ⟨o, g, hc, n, hd⟩ ⟨o2, g2, hc2, n2, hd2⟩ hi hi2 hu q)
theorem tupN_firsts {h : Heap} : ∀ {vs : List Value} {L : List (List (List Int))}, Paired (TupN h) vs L -> (∀ kss ∈ L, kss ≠ []) -> ∃ fs, KatTups h vs fs /\ fs.length = vs.length /\ ∀ f ∈ fs, ∃ a o, f = .ref a /\ h.get? a = some o /\ o.cls = .type "tuple"
  | _, _, .nil, _ => ⟨[], .nil, rfl, fun f hf => nomatch hf⟩
  | _, _, .cons (b := kss) r t, hne => by
    obtain ⟨fs, k, l, a⟩ := tupN_firsts t fun ks hk => hne ks (List.mem_cons_of_mem _ hk)
    obtain ⟨ad, o, xs, n, rfl, g, hc, hd, hi⟩ := r
    cases kss with
    | nil => exact absurd rfl (hne _ (List.mem_cons_self ..))
    | cons x kss =>
      obtain ⟨y, ey, c, oc, ys, nc, rfl, gc, hcc, hdc, hic⟩ : ∃ y, xs.toList[0]? = some y /\ TupI h y x := by
        generalize xs.toList = L at hi
        cases hi with
        | cons r1 r2 => exact ⟨_, rfl, r1⟩
      refine ⟨.ref c :: fs, .cons g hc hd (by rw [Array.getElem?_toList] at ey; exact ey) k, by simp [l], fun f hf => ?_⟩
      rcases List.mem_cons.mp hf with rfl | hf
      · exact ⟨c, oc, rfl, gc, hcc⟩
      · exact a f hf
def AsksA (prog : Program) (w : World) (A : Around) (s : Shared) (lt : Nat -> Nat -> Bool) (vs : List Value) : Prop :=
  ∀ (h' : Heap), (∀ b u, s.heap.get? b = some u -> h'.get? b = some u) -> 2 <= vs.length -> ∃ κ : SortKind, (∀ (E : Value -> Shared -> Prop) (Q : SortKind -> Shared -> Prop), Q κ { s with heap := h' } -> wpAny (model prog w) A (keyKind' vs.toArray) Q E { s with heap := h' }) /\
    ∀ (i j : Nat) (C : Bool -> Shared -> Prop), i < vs.length -> j < vs.length -> C (lt i j) { s with heap := h' } -> wpAny (model prog w) A (keyLt' κ (vs.getD i Value.none) (vs.getD j Value.none)) C (fun _ _ => False) { s with heap := h' }
theorem asks_nest {vs : List Value} {L : List (List (List Int))} (hu : A.units < cLine) (h : Paired (TupN s.heap) vs L) (hne : ∀ kss ∈ L, kss ≠ []) : AsksA prog w A s (fun i j => nLt (L.getD i []) (L.getD j [])) vs := by
  intro h' keep two
  have h2 : Paired (TupN h') vs L := Paired.mapP h fun _ _ x => x.kept keep
  refine ⟨tuples' false, fun E Q q => ?_, fun i j C hi hj q => ?_⟩
  · obtain ⟨fs, k, l, a⟩ := tupN_firsts h2 hne
    have e : (Value.type "tuple" != Value.type "tuple") = false := by decide
    refine kat_kind (T := .type "tuple") k (by lia) (fun f hf => ?_) (by decide) (by rw [e]; exact q)
    obtain ⟨c, o, rfl, g, hc⟩ := a f hf
    rw [<- hc]
    exact (Looks.ld g).andThen .now
  · have gi : ∀ i, i < vs.length -> ∃ v kss, vs.getD i Value.none = v /\ L.getD i [] = kss /\ TupN h' v kss := fun i hi => by
      obtain ⟨kss, e, r⟩ := Paired.at h2 (i := i) (a := vs[i]) (by simp [hi])
      exact ⟨vs[i], kss, by simp [hi], by rw [List.getD_eq_getElem?_getD, e]; rfl, r⟩
    obtain ⟨v, ks, ev, ek, a, o, xs, n, rfl, g, _, hd, hI⟩ := gi i hi
    obtain ⟨u, ms, eu, em, b, o2, ys, n2, rfl, g2, _, hd2, hI2⟩ := gi j hj
    rw [ev, eu]
    refine kat_lt (s := { s with heap := h' }) g hd g2 hd2 (tups_lex (s := { s with heap := h' }) hu 0 hI hI2 ?_)
    have l1 : xs.size = ks.length := by have := Paired.length hI; simpa using this
    have l2 : ys.size = ms.length := by have := Paired.length hI2; simpa using this
    rw [l1, l2, lexN_eq]
    have q' : C (nLt (L.getD i []) (L.getD j [])) { s with heap := h' } := q
    rw [ek, em] at q'
    exact q'
theorem sorted_genA {l : Addr} {vs : List Value} {lt : Nat -> Nat -> Bool} {Q : Value -> Shared -> Prop} (hl : s.heap.IsList l vs.toArray) (o : Ord lt) (hbig : vs.length <= 1000000) (ask : ∀ A' : Around, A'.units <= A.units + 4 -> AsksA prog w A' s lt vs)
    (q : ∀ p, PB vs.length p -> Up lt p vs.length -> Q (.ref (s.heap.objs.size + 1)) { s with heap := sortedAll s.heap vs (outOf vs p).toArray }) : wpAny (model prog w) A (call (.builtin "sorted") [.ref l]) Q E s := by
  refine Calls.call_function_entry kind_sorted plain_sorted entry_sorted (args_sorted1 _) ?_
  unfold Builtin.«sorted»
  refine wpAny_bind (m := checkCount "sorted" 1 1 _) (wpAny_pure (wpAny_bind (collect_list hl (wpAny_bind (wpAny_newList ?_ (by rw [sizeLine_eq]; omega))) (by rw [sizeLine_eq]; omega))))
  have z1 : ((s.heap.push (seqObj "list" #[] 0)).update s.heap.objs.size (Obj.mapSeq (· ++ vs.toArray))).objs.size = s.heap.objs.size + 1 := by rw [Heap.size_update, size_push']
  have oL : (((s.heap.push (seqObj "list" #[] 0)).update s.heap.objs.size (Obj.mapSeq (· ++ vs.toArray))).push (seqObj "list" vs.toArray 0)).get? (s.heap.objs.size + 1) = some (seqObj "list" vs.toArray 0) := by
    rw [<- z1]; exact Heap.get?_push_size _ rfl
  have keep : ∀ b u, s.heap.get? b = some u -> (((s.heap.push (seqObj "list" #[] 0)).update s.heap.objs.size (Obj.mapSeq (· ++ vs.toArray))).push (seqObj "list" vs.toArray 0)).get? b = some u := fun b u z => by
    have lb : b < s.heap.objs.size := Heap.lt_size z
    exact Heap.get?_push_of_some _ (by rw [Heap.get?_update_ne _ _ _ _ (Nat.ne_of_lt lb)]; exact Heap.get?_push_of_some _ z)
  show wpAny _ _ _ _ _ { s with heap := ((s.heap.push (seqObj "list" #[] 0)).update s.heap.objs.size (Obj.mapSeq (· ++ vs.toArray))).push (seqObj "list" vs.toArray 0) }
  rw [z1]
  have u2 : A.in1.in1.units <= A.units + 4 := by
    have a := in1_units (A := A)
    have b := in1_units (A := A.in1)
    omega
  refine wpAny_bind (wpAny_holding (wpAny_call_entry slot_list_sort ⟨_, oL, rfl⟩ entry_list_sort (sort_bodyG oL o hbig (fun two h' k => ask _ u2 h' (fun b u z => k b u (fun e => ?_) (keep b u z)) two) fun p pb up => ⟨_, rfl, ?_⟩) (args_list_sort _)))
  · exact absurd (Heap.lt_size z) (by rw [e]; exact Nat.not_lt.mpr (Nat.le_succ _))
  · exact wpAny_pure ⟨_, rfl, q p pb up⟩
end
def NestAt (H : Hp) (v : V) (kss : List (List Int)) : Prop := ∃ a ys, v = .ref a /\ H a = some (.tup ys) /\ Paired (IntsAt H) ys kss
theorem NestAt.same {H H' : Hp} {v : V} {kss : List (List Int)} (h : NestAt H v kss) (e : Same H H') : NestAt H' v kss := let ⟨a, ys, h1, h2, h3⟩ := h; ⟨a, ys, h1, e _ _ h2, Paired.mapP h3 fun _ _ z => z.same e⟩
section
variable {X : Cx}
def rSortedN (K : PySem.W.Frag) : List V -> Hp -> VK -> Prop := fun xs H Q => ∃ (p : Addr) (rs : List V) (L : List (List (List Int))), xs = [.ref p] /\ SqL K H p rs /\ rs.length <= 1000000 /\ Paired (NestAt H) rs L /\ (∀ kss ∈ L, kss ≠ []) /\
  ∀ (l : Addr) (rs' : List V) (L' : List (List (List Int))), Paired (NestAt H) rs' L' -> L'.Perm L -> L'.Pairwise NLe -> H l = none -> Q (.ref l) (upd H l (.lst rs'))
theorem call_sortedN (hu : X.A.units + 66 < cLine) : CallR X (.builtin "sorted") (rSortedN X.K) := by
  intro pins s σ H xs us Q I r h
  obtain ⟨p, rs, kss, rfl, hp, hn, hk, hne, q⟩ := h
  obtain ⟨u, rfl, ru⟩ := Vals.one r
  cases (show u = Value.ref p from ru)
  obtain ⟨its, r1, t1, _⟩ := I.list hp
  have hl : its.length = rs.length := r1.length.symm
  have kl : rs.length = kss.length := Paired.length hk
  have tup : ∀ i, i < rs.length -> ∃ a ks ys, rs.getD i .non = .ref a /\ kss.getD i [] = ks /\ its.getD i Value.none = .ref a /\ H a = some (.tup ys) /\ Paired (IntsAt H) ys ks := fun i hi => by
    obtain ⟨ks, e, a, ys, ea, ha, hy⟩ := Paired.at hk (i := i) (a := rs[i]) (by simp [hi])
    obtain ⟨v, ev, rv⟩ := r1.get (i := i) (x := rs[i]) (by simp [hi])
    rw [ea] at rv
    refine ⟨a, ks, ys, by simp [hi, ea], by rw [List.getD_eq_getElem?_getD, e]; rfl, ?_, ha, hy⟩
    rw [List.getD_eq_getElem?_getD, ev]
    exact rv
  have inner : ∀ {ys : List V} {ks : List (List Int)} {us : List Value}, Paired (IntsAt H) ys ks -> Vals ys us -> Paired (TupI s.heap) us ks := by
    intro ys ks us hy
    induction hy generalizing us with
    | nil => intro r; cases r; exact .nil
    | cons h t ih =>
      intro r
      cases r with
      | cons rv rt =>
        obtain ⟨c, rfl, hc⟩ := h
        cases (show _ = Value.ref c from rv)
        obtain ⟨_, vs, ru, o, g, hcl, n, hd⟩ := I.hok c _ hc
        exact .cons ⟨c, o, vs.toArray, n, rfl, g, hcl, hd, by simpa using intsAre_of ru⟩ (ih rt)
  have tups : Paired (TupN s.heap) its kss := by
    have e1 := range_getD its Value.none
    have e2 := range_getD kss []
    rw [hl] at e1
    rw [<- kl] at e2
    rw [<- e1, <- e2]
    refine paired_map fun i hi => ?_
    obtain ⟨a, ks, ys, _, e4, e5, e6, e7⟩ := tup i (List.mem_range.mp hi)
    obtain ⟨_, us, ru, o, g, hc, n, hd⟩ := I.hok a _ e6
    rw [e4, e5]
    exact ⟨a, o, us.toArray, n, rfl, g, hc, hd, by simpa using inner e7 ru⟩
  refine sorted_genA t1.isList (nLt_ord kss) (by omega) (fun A' ha => asks_nest (Nat.lt_of_le_of_lt ha (by omega)) tups hne) fun pm pb up => ?_
  obtain ⟨e, he⟩ := sortedAll_at s.heap its (outOf its pm).toArray
  have fr : s.heap.objs.size <= s.heap.objs.size + 1 := Nat.le_succ _
  have pl : ∀ i ∈ pm.toList, i < rs.length := fun i hi => by
    have := pb.list.mem_iff.mp hi
    rw [List.mem_range, hl] at this
    exact this
  have ls : pm.toList.length = rs.length := by rw [Array.length_toList, pb.size, hl]
  refine ⟨.ref (s.heap.objs.size + 1), upd H (s.heap.objs.size + 1) (.lst (pm.toList.map fun i => rs.getD i .non)), I.laid (t' := s.toks) (fun b o z => sortedAll_old z) fr ?_, rfl,
    q _ _ (pm.toList.map fun i => kss.getD i []) (paired_map fun i hi => ?_) ?_ ?_ (I.hok.fresh fr)⟩
  · refine ⟨?_, outOf its pm, e, paired_map fun i hi => ?_, he⟩
    · rw [List.length_map, ls, sizeLine_eq]; omega
    · obtain ⟨a, ks, ys, e3, e4, e5, e6, e7⟩ := tup i (pl i hi)
      rw [e3, e5]
      exact rfl
  · obtain ⟨a, ks, ys, e3, e4, e5, e6, e7⟩ := tup i (pl i hi)
    rw [e3, e4]
    exact ⟨a, ys, rfl, e6, e7⟩
  · have := pb.list.map fun i => kss.getD i []
    rw [hl, kl, range_getD] at this
    exact this
  · rw [List.pairwise_iff_getElem]
    intro i j hi hj hij
    rw [List.length_map] at hi hj
    have := up i j (by omega) (by rw [hl]; omega)
    simp only [List.getElem_map, Array.getElem_toList]
    have gi : pm.getD i 0 = pm[i] := by simp [Array.getD, show i < pm.size by rw [<- Array.length_toList]; exact hi]
    have gj : pm.getD j 0 = pm[j] := by simp [Array.getD, show j < pm.size by rw [<- Array.length_toList]; exact hj]
    rw [gi, gj] at this
    exact this
end
end L2
namespace My
open PySem L2
def top (i : Nat) : Stmt := PySem.Challenge.pw_manycounts_k54_leaves_are_trees.main.body.getD i (.Pass ⟨0, 0, 0, 0⟩)
abbrev sIsWhole : Stmt := top 6
abbrev sOnce : Stmt := top 8
abbrev sLesser : Stmt := top 10
abbrev sNoTie : Stmt := top 11
abbrev sWithin : Stmt := top 7
abbrev sTold : Stmt := top 12
abbrev sWhole : Stmt := top 13
abbrev sAll : Stmt := top 14
abbrev sMore : Stmt := top 15
abbrev sHeads : Stmt := top 17
abbrev sRank : Stmt := top 18
abbrev sRankW : Stmt := top 19
abbrev sKind : Stmt := top 20
abbrev sLeft : Stmt := top 34
abbrev sDrawn : Stmt := top 35
abbrev sMoved : Stmt := top 36
abbrev sPW : Stmt := top 22
abbrev sAT : Stmt := top 24
abbrev sInner : Stmt := top 26
abbrev sOuter : Stmt := top 27
abbrev sSwaps : Stmt := top 28
abbrev sAcross : Stmt := top 29
abbrev sIsIn : Stmt := top 30
abbrev sIsOut : Stmt := top 31
abbrev sFirst : Stmt := top 32
abbrev sWith : Stmt := top 43
abbrev sSteps : Stmt := top 44
abbrev sDown : Stmt := top 45
abbrev sAt : Stmt := top 47
abbrev sWeb : Stmt := top 48
abbrev sLRank : Stmt := top 49
abbrev sPick : Stmt := top 50
abbrev sLTrees : Stmt := top 51
abbrev sOrder : Stmt := top 52
abbrev sLaw : Stmt := top 53
abbrev cEnd : Stmt := top 39
abbrev cCurl : Stmt := top 40
abbrev cBridge : Stmt := top 41
abbrev cFork : Stmt := top 42
abbrev sCInit : Stmt := inClass cCurl 0
abbrev sBInit : Stmt := inClass cBridge 0
abbrev sFInit : Stmt := inClass cFork 0
abbrev sELv : Stmt := inClass cEnd 1
abbrev sEMany : Stmt := inClass cEnd 2
abbrev sCLv : Stmt := inClass cCurl 2
abbrev sCMany : Stmt := inClass cCurl 3
abbrev sBLv : Stmt := inClass cBridge 2
abbrev sBMany : Stmt := inClass cBridge 3
abbrev sFLv : Stmt := inClass cFork 2
abbrev sFMany : Stmt := inClass cFork 3
def TieAt (H : Hp) (v : V) (p : Int × Int) : Prop := ∃ a, v = .ref a /\ H a = some (.tup [.int p.1, .int p.2])
theorem TieAt.same {H H' : Hp} {v : V} {p : Int × Int} (h : TieAt H v p) (e : Same H H') : TieAt H' v p := let ⟨a, h1, h2⟩ := h; ⟨a, h1, e _ _ h2⟩
theorem ties_same {H H' : Hp} {xs : List V} {ps : List (Int × Int)} (h : Paired (TieAt H) xs ps) (e : Same H H') : Paired (TieAt H') xs ps := L2.Paired.mapP h fun _ _ q => q.same e
def norm (p : Int × Int) : Int × Int := if p.1 <= p.2 then (p.1, p.2) else (p.2, p.1)
structure WebAt (H : Hp) (w : V) (n : Int) (ps : List (Int × Int)) : Prop where
  ex : ∃ c d xs, w = .ref c /\ H c = some (.tup [.int n, .ref d]) /\ H d = some (.tup xs) /\ Paired (TieAt H) xs ps
theorem WebAt.same {H H' : Hp} {w : V} {n : Int} {ps : List (Int × Int)} (h : WebAt H w n ps) (e : Same H H') : WebAt H' w n ps := by
  obtain ⟨c, d, xs, h1, h2, h3, h4⟩ := h.ex
  exact ⟨c, d, xs, h1, e _ _ h2, e _ _ h3, ties_same h4 e⟩
structure Txt (K : W.Frag) (mg : Str -> Option Value) : Prop where
  isi : mg "isinstance" = none
  int : mg "int" = none
  bool : mg "bool" = none
  len : mg "len" = none
  tuple : mg "tuple" = none
  all : mg "all" = none
  list : mg "list" = none
  min : mg "min" = none
  max : mg "max" = none
  range : mg "range" = none
  set : mg "set" = none
  sorted : mg "sorted" = none
theorem boot_isi : bootBuiltins "isinstance" = some (.builtin "isinstance") := by first | rfl | decide +kernel
theorem boot_int' : bootBuiltins "int" = some (.type "int") := by first | rfl | decide +kernel
theorem boot_bool' : bootBuiltins "bool" = some (.type "bool") := by first | rfl | decide +kernel
theorem boot_tuple' : bootBuiltins "tuple" = some (.type "tuple") := by first | rfl | decide +kernel
theorem boot_list' : bootBuiltins "list" = some (.type "list") := by first | rfl | decide +kernel
theorem boot_all' : bootBuiltins "all" = some (.builtin "all") := by first | rfl | decide +kernel
theorem boot_min' : bootBuiltins "min" = some (.builtin "min") := by first | rfl | decide +kernel
theorem boot_max' : bootBuiltins "max" = some (.builtin "max") := by first | rfl | decide +kernel
theorem boot_sorted' : bootBuiltins "sorted" = some (.builtin "sorted") := by first | rfl | decide +kernel
def InN (n : Int) (p : Int × Int) : Prop := 0 <= p.1 /\ p.1 < n /\ 0 <= p.2 /\ p.2 < n
theorem mod_in (a n : Int) (h : 0 < n) : 0 <= a % n /\ a % n < n := ⟨Int.emod_nonneg _ (by lia), Int.emod_lt_of_pos _ h⟩
def ups (n : Int) : List Int := (List.range n.toNat).map fun (i : Nat) => (i : Int)
theorem upN_ups (n : Nat) : upN n = (ups n).map V.int := by
  unfold upN ups
  rw [List.map_map, Int.toNat_natCast]
  rfl
def at0 (l : List Int) (i : Int) : Int := l.getD i.toNat 0
def stepH (hs : List Int) (p : Int × Int) : List Int :=
  hs.map fun h => if h = (if at0 hs p.2 > at0 hs p.1 then at0 hs p.2 else at0 hs p.1) then (if at0 hs p.2 < at0 hs p.1 then at0 hs p.2 else at0 hs p.1) else h
def tieN (ps : List (Int × Int)) (k : Int) : Int × Int := ps.getD k.toNat (0, 0)
def hdF (ps : List (Int × Int)) (hs : List Int) (ks : List Int) : List Int := ks.foldl (fun hs k => stepH hs (tieN ps k)) hs
def stepM (st : List Int × Int) (p : Int × Int) : List Int × Int :=
  if at0 st.1 p.1 = at0 st.1 p.2 then st else (st.1.map fun m => if m = at0 st.1 p.2 then at0 st.1 p.1 else m, st.2 + 1)
def rkF (ps : List (Int × Int)) (st : List Int × Int) (ks : List Int) : List Int × Int := ks.foldl (fun st k => stepM st (tieN ps k)) st
def rk (n : Int) (ps : List (Int × Int)) (ks : List Int) : Int := (rkF ps (ups n, 0) ks).2
theorem dcr_merge (u v : Int) (huv : u ≠ v) : ∀ l : List Int, dcr (l.map fun x => if x = v then u else x) + (if u ∈ l /\ v ∈ l then 1 else 0) = dcr l
  | [] => by simp [dcr]
  | x :: xs => by
    have ih := dcr_merge u v huv xs
    have mem : ∀ z, z ≠ v -> (z ∈ xs.map (fun x => if x = v then u else x) ↔ z ∈ xs \/ (z = u /\ v ∈ xs)) := by
      intro z hz
      rw [List.mem_map]
      constructor
      · rintro ⟨y, hy, e⟩
        by_cases hyv : y = v
        · rw [if_pos hyv] at e
          exact .inr ⟨e.symm, hyv ▸ hy⟩
        · rw [if_neg hyv] at e
          exact .inl (e ▸ hy)
      · rintro (h | ⟨rfl, h⟩)
        · exact ⟨z, h, if_neg hz⟩
        · exact ⟨v, h, if_pos rfl⟩
    rw [List.map_cons]
    show dcr (xs.map fun x => if x = v then u else x) + (if (if x = v then u else x) ∈ xs.map (fun x => if x = v then u else x) then 0 else 1) + _ = dcr xs + if x ∈ xs then 0 else 1
    generalize hd : dcr (xs.map fun x => if x = v then u else x) = d at ih
    generalize hd2 : dcr xs = d2 at ih
    by_cases hxv : x = v
    · subst hxv
      rw [if_pos rfl]
      have m := mem u huv
      by_cases h1 : u ∈ xs <;> by_cases h2 : x ∈ xs <;> simp [m, h1, h2, huv] at ih ⊢ <;> lia
    · rw [if_neg hxv]
      have m := mem x hxv
      by_cases hxu : x = u
      · subst hxu
        by_cases h1 : x ∈ xs <;> by_cases h2 : v ∈ xs <;> simp [m, h1, h2, Ne.symm huv] at ih ⊢ <;> lia
      · have e1 : ¬ (u = x) := fun z => hxu z.symm
        have e2 : ¬ (v = x) := fun z => hxv z.symm
        by_cases h1 : u ∈ xs <;> by_cases h2 : v ∈ xs <;> by_cases h3 : x ∈ xs <;> simp [m, h1, h2, h3, e1, e2, hxu] at ih ⊢ <;> lia
theorem dcount_merge {u v : Int} (huv : u ≠ v) {l : List Int} (h1 : u ∈ l) (h2 : v ∈ l) : dcount (l.map fun x => if x = v then u else x) + 1 = dcount l := by
  unfold dcount
  rw [<- List.map_reverse]
  have := dcr_merge u v huv l.reverse
  rw [if_pos ⟨List.mem_reverse.mpr h1, List.mem_reverse.mpr h2⟩] at this
  exact this
def Rel (n : Nat) (hs ms : List Int) : Prop := ∀ i j, i < n -> j < n -> (hs.getD i 0 = hs.getD j 0 ↔ ms.getD i 0 = ms.getD j 0)
theorem getD_map {l : List Int} {f : Int -> Int} {i : Nat} (h : i < l.length) : (l.map f).getD i 0 = f (l.getD i 0) := by simp [List.getD, h]
theorem getD_mem {l : List Int} {i : Nat} (h : i < l.length) : l.getD i 0 ∈ l := by simp [List.getD, h]
theorem stepH_same {hs : List Int} {p : Int × Int} (h : at0 hs p.1 = at0 hs p.2) : stepH hs p = hs := by
  unfold stepH
  rw [h]
  have e : (fun x : Int => if x = (if at0 hs p.2 > at0 hs p.2 then at0 hs p.2 else at0 hs p.2) then (if at0 hs p.2 < at0 hs p.2 then at0 hs p.2 else at0 hs p.2) else x) = id := by
    funext x
    show _ = x
    split <;> simp_all
  rw [e, List.map_id]
theorem stepH_ne {hs : List Int} {p : Int × Int} (h : at0 hs p.1 ≠ at0 hs p.2) : ∃ u v, u ≠ v /\ stepH hs p = hs.map (fun x => if x = v then u else x) /\ ((u = at0 hs p.1 /\ v = at0 hs p.2) \/ (u = at0 hs p.2 /\ v = at0 hs p.1)) := by
  unfold stepH
  by_cases hlt : at0 hs p.2 < at0 hs p.1
  · refine ⟨at0 hs p.2, at0 hs p.1, fun z => h z.symm, ?_, .inr ⟨rfl, rfl⟩⟩
    rw [if_neg (by lia), if_pos hlt]
  · have : at0 hs p.2 > at0 hs p.1 := by lia
    refine ⟨at0 hs p.1, at0 hs p.2, h, ?_, .inl ⟨rfl, rfl⟩⟩
    rw [if_pos this, if_neg hlt]
theorem norm_cases (p : Int × Int) : (norm p).1 = p.1 /\ (norm p).2 = p.2 \/ (norm p).1 = p.2 /\ (norm p).2 = p.1 := by
  unfold norm
  split
  · exact .inl ⟨rfl, rfl⟩
  · exact .inr ⟨rfl, rfl⟩
theorem merge_eq {u v x y : Int} (huv : u ≠ v) : ((if x = v then u else x) = (if y = v then u else y)) ↔ (x = y \/ ((x = u \/ x = v) /\ (y = u \/ y = v))) := by
  split <;> split <;> lia
theorem step_inv {n : Nat} {hs ms : List Int} {c : Int} {p : Int × Int} (lh : hs.length = n) (lm : ms.length = n) (R : Rel n hs ms) (hc : c + (dcount hs : Int) = n) (hp : InN n p) :
    (stepH hs (norm p)).length = n /\ (stepM (ms, c) p).1.length = n /\ Rel n (stepH hs (norm p)) (stepM (ms, c) p).1 /\ (stepM (ms, c) p).2 + (dcount (stepH hs (norm p)) : Int) = n := by
  obtain ⟨p1, p2, p3, p4⟩ := hp
  have a1 : p.1.toNat < n := by lia
  have a2 : p.2.toNat < n := by lia
  have r12 := R p.1.toNat p.2.toNat a1 a2
  have swap : at0 hs (norm p).1 = at0 hs (norm p).2 ↔ at0 hs p.1 = at0 hs p.2 := by
    rcases norm_cases p with ⟨e1, e2⟩ | ⟨e1, e2⟩ <;> rw [e1, e2]
    exact eq_comm
  by_cases he : at0 hs p.1 = at0 hs p.2
  · have em : at0 ms p.1 = at0 ms p.2 := r12.mp he
    have e1 : stepH hs (norm p) = hs := stepH_same (swap.mpr he)
    have e2 : stepM (ms, c) p = (ms, c) := by unfold stepM; exact if_pos em
    rw [e1, e2]
    exact ⟨lh, lm, R, hc⟩
  · have em : ¬ at0 ms p.1 = at0 ms p.2 := fun z => he (r12.mpr z)
    have e2 : stepM (ms, c) p = (ms.map (fun m => if m = at0 ms p.2 then at0 ms p.1 else m), c + 1) := by unfold stepM; exact if_neg em
    obtain ⟨u, v, huv, e1, hu⟩ := stepH_ne (hs := hs) (p := norm p) (fun z => he (swap.mp z))
    have hu' : (u = at0 hs p.1 /\ v = at0 hs p.2) \/ (u = at0 hs p.2 /\ v = at0 hs p.1) := by
      rcases norm_cases p with ⟨f1, f2⟩ | ⟨f1, f2⟩ <;> rw [f1, f2] at hu
      · exact hu
      · exact hu.symm
    have m1 : at0 hs p.1 ∈ hs := getD_mem (by lia)
    have m2 : at0 hs p.2 ∈ hs := getD_mem (by lia)
    have mu : u ∈ hs := by rcases hu' with ⟨z, _⟩ | ⟨z, _⟩ <;> rw [z] <;> assumption
    have mv : v ∈ hs := by rcases hu' with ⟨_, z⟩ | ⟨_, z⟩ <;> rw [z] <;> assumption
    rw [e1, e2]
    refine ⟨by rw [List.length_map]; exact lh, by rw [List.length_map]; exact lm, fun i j hi hj => ?_, ?_⟩
    · rw [getD_map (by lia), getD_map (by lia), getD_map (by lia), getD_map (by lia), merge_eq huv, merge_eq em]
      have ri := R i p.1.toNat hi a1
      have ri2 := R i p.2.toNat hi a2
      have rj := R j p.1.toNat hj a1
      have rj2 := R j p.2.toNat hj a2
      have rij := R i j hi hj
      have ti : (hs.getD i 0 = u \/ hs.getD i 0 = v) ↔ (ms.getD i 0 = at0 ms p.1 \/ ms.getD i 0 = at0 ms p.2) := by
        rcases hu' with ⟨z1, z2⟩ | ⟨z1, z2⟩
        · rw [z1, z2]; exact or_congr ri ri2
        · rw [z1, z2]; exact (or_congr ri2 ri).trans or_comm
      have tj : (hs.getD j 0 = u \/ hs.getD j 0 = v) ↔ (ms.getD j 0 = at0 ms p.1 \/ ms.getD j 0 = at0 ms p.2) := by
        rcases hu' with ⟨z1, z2⟩ | ⟨z1, z2⟩
        · rw [z1, z2]; exact or_congr rj rj2
        · rw [z1, z2]; exact (or_congr rj2 rj).trans or_comm
      exact or_congr rij (and_congr ti tj)
    · have := dcount_merge huv mu mv
      show c + 1 + (dcount (hs.map fun x => if x = v then u else x) : Int) = n
      lia
theorem tieN_in {n : Int} {ps : List (Int × Int)} {k : Int} (hb : ∀ p ∈ ps, InN n p) (k0 : 0 <= k) (kl : k < ps.length) : InN n (tieN ps k) := by
  have : k.toNat < ps.length := by lia
  unfold tieN
  refine hb _ ?_
  simp [List.getD, this]
theorem tieN_norm {ps : List (Int × Int)} {k : Int} (k0 : 0 <= k) (kl : k < ps.length) : tieN (ps.map norm) k = norm (tieN ps k) := by
  have : k.toNat < ps.length := by lia
  unfold tieN
  simp [List.getD, this]
theorem run_inv {n : Nat} {ps : List (Int × Int)} (hb : ∀ p ∈ ps, InN n p) : ∀ (ks : List Int), (∀ k ∈ ks, 0 <= k /\ k < ps.length) -> ∀ (hs ms : List Int) (c : Int), hs.length = n -> ms.length = n -> Rel n hs ms -> c + (dcount hs : Int) = n ->
    (rkF ps (ms, c) ks).2 + (dcount (hdF (ps.map norm) hs ks) : Int) = n
  | [], _, hs, ms, c, _, _, _, hc => hc
  | k :: ks, hk, hs, ms, c, lh, lm, R, hc => by
    obtain ⟨k0, kl⟩ := hk k List.mem_cons_self
    obtain ⟨s1, s2, s3, s4⟩ := step_inv lh lm R hc (tieN_in hb k0 kl)
    have := run_inv hb ks (fun j hj => hk j (List.mem_cons_of_mem _ hj)) _ _ _ s1 s2 s3 s4
    rw [<- tieN_norm k0 kl] at this
    exact this
theorem ups_len (n : Int) : (ups n).length = n.toNat := by unfold ups; simp
theorem nine {n : Int} (h1 : 1 <= n) (h9 : n <= 9) : n = 1 \/ n = 2 \/ n = 3 \/ n = 4 \/ n = 5 \/ n = 6 \/ n = 7 \/ n = 8 \/ n = 9 := by lia
theorem ups_dc {n : Int} (h1 : 1 <= n) (h9 : n <= 9) : (dcount (ups n) : Int) = n := by
  rcases nine h1 h9 with rfl | rfl | rfl | rfl | rfl | rfl | rfl | rfl | rfl <;> decide +kernel
theorem rank_eq {n : Int} {ps : List (Int × Int)} {ks : List Int} (h1 : 1 <= n) (h9 : n <= 9) (hb : ∀ p ∈ ps, InN n p) (hk : ∀ k ∈ ks, 0 <= k /\ k < ps.length) : n - (dcount (hdF (ps.map norm) (ups n) ks) : Int) = rk n ps ks := by
  have e : ((n.toNat : Nat) : Int) = n := by lia
  have := run_inv (n := n.toNat) (ps := ps) (by rw [e]; exact hb) ks hk (ups n) (ups n) 0 (ups_len n) (ups_len n) (fun i j _ _ => Iff.rfl) (by rw [ups_dc h1 h9]; lia)
  unfold rk
  lia
theorem stepH_len (hs : List Int) (p : Int × Int) : (stepH hs p).length = hs.length := by unfold stepH; simp
theorem hdF_snoc (ps : List (Int × Int)) (hs ks : List Int) (k : Int) : hdF ps hs (ks ++ [k]) = stepH (hdF ps hs ks) (tieN ps k) := by unfold hdF; rw [List.foldl_append]; rfl
theorem rkF_snoc (ps : List (Int × Int)) (st : List Int × Int) (ks : List Int) (k : Int) : rkF ps st (ks ++ [k]) = stepM (rkF ps st ks) (tieN ps k) := by unfold rkF; rw [List.foldl_append]; rfl
theorem hdF_len (ps : List (Int × Int)) : ∀ (ks hs : List Int), (hdF ps hs ks).length = hs.length
  | [], _ => rfl
  | k :: ks, hs => by
    show (hdF ps (stepH hs (tieN ps k)) ks).length = _
    rw [hdF_len ps ks, stepH_len]
theorem stepM_len (st : List Int × Int) (p : Int × Int) : (stepM st p).1.length = st.1.length := by unfold stepM; split <;> simp
theorem rkF_len (ps : List (Int × Int)) : ∀ (ks : List Int) (st : List Int × Int), (rkF ps st ks).1.length = st.1.length
  | [], _ => rfl
  | k :: ks, st => by
    show (rkF ps (stepM st (tieN ps k)) ks).1.length = _
    rw [rkF_len ps ks, stepM_len]
theorem boot_range' : bootBuiltins "range" = some (.type "range") := by first | rfl | decide +kernel
theorem boot_set' : bootBuiltins "set" = some (.type "set") := by first | rfl | decide +kernel
theorem for_seqK {k : Kd} {K : W.Frag} {a : Addr} {xs : List V} {g : TG} {tb : TS} {D : Ends} {σ : St} {H : Hp} (Pv : Nat -> St -> Hp -> Prop) (h0 : Pv 0 σ H) (hl : ∀ i σ H, i <= xs.length -> Pv i σ H -> SqK k K H a xs)
    (hs : ∀ (i : Nat) (x : V) (σ : St) (H : Hp), xs[i]? = some x -> Pv i σ H -> g x σ H fun σ2 H2 => tb { D with nx := Pv (i + 1), ct := Pv (i + 1), bk := D.nx } σ2 H2) (hd : ∀ σ H, Pv xs.length σ H -> D.nx σ H) :
    ∃ W : Nat -> Nat -> St -> Hp -> Prop, (∃ m, W 0 m σ H) /\ ∀ i m σ H, W i m σ H ->
      ((ItK k K a).stop i H /\ D.nx σ H) \/ ((ItK k K a).go i H /\ ∃ N : St -> Hp -> Prop, (∀ σ' H', N σ' H' -> ∃ m', m' < m /\ W (i + 1) m' σ' H') /\ ∀ x H', (ItK k K a).yld i H x H' -> g x σ H' fun σ2 H2 => tb { D with nx := N, ct := N, bk := D.nx } σ2 H2) := by
  refine ⟨fun i m σ H => m = xs.length - i /\ i <= xs.length /\ Pv i σ H, ⟨xs.length, by simp, Nat.zero_le _, h0⟩, ?_⟩
  rintro i m σ H ⟨rfl, hi, p⟩
  have q := hl i σ H hi p
  by_cases hlt : i < xs.length
  · refine .inr ⟨itk_go q hlt, Pv (i + 1), fun σ' H' p' => ⟨xs.length - (i + 1), by lia, rfl, hlt, p'⟩, fun x H' y => ?_⟩
    obtain ⟨e, hy2⟩ := itk_yld q y
    subst e
    exact hs i x σ H' hy2 p
  · have e : i = xs.length := by lia
    subst e
    exact .inl ⟨itk_stop q (Nat.le_refl _), hd σ H p⟩
theorem at_int {l : List Int} {i : Int} (h0 : 0 <= i) (hl : i < l.length) : atI (l.map V.int) i = some (.int (at0 l i)) := by
  obtain ⟨j, rfl⟩ := Int.eq_ofNat_of_zero_le h0
  have hj : j < l.length := by lia
  refine atI_nat ?_
  unfold at0
  simp [List.getD, hj]
theorem at_tie {H : Hp} {xs : List V} {ps : List (Int × Int)} (h : Paired (TieAt H) xs ps) {k : Int} (h0 : 0 <= k) (hl : k < ps.length) : ∃ c, atI xs k = some (.ref c) /\ H c = some (.tup [.int (tieN ps k).1, .int (tieN ps k).2]) := by
  obtain ⟨j, rfl⟩ := Int.eq_ofNat_of_zero_le h0
  have xl := Paired.length h
  have hj : j < xs.length := by lia
  obtain ⟨p, e1, c, e2, e3⟩ := Paired.at h (show xs[j]? = some xs[j] by simp [hj])
  refine ⟨c, atI_nat (by rw [List.getElem?_eq_getElem hj, e2]), ?_⟩
  have : tieN ps (j : Int) = p := by
    unfold tieN
    rw [Int.toNat_natCast, List.getD_eq_getElem?_getD, e1]
    rfl
  rw [this]
  exact e3
def Ks (m : Nat) (ks : List Int) : Prop := ∀ k ∈ ks, 0 <= k /\ k < (m : Int)
def spHeads (K : W.Frag) : Sp := fun vs H Q _ => ∃ (wv : V) (pk : Addr) (n : Int) (ps : List (Int × Int)) (ks : List Int), vs = [wv, .ref pk] /\ WebAt H wv n ps /\ 1 <= n /\ n <= 9 /\ (∀ p ∈ ps, InN n p) /\ SqT K H pk (ks.map V.int) /\ Ks ps.length ks /\
  ∀ l H', Same H H' -> H' l = some (.lst ((hdF ps (ups n) ks).map V.int)) -> Q (.ref l) H'
theorem ten_line {n : Nat} (h : n <= 10) : n < sizeLine := Nat.lt_of_le_of_lt h (by decide)
section
variable {P : Program} {w : World} {K : W.Frag} {mg : Str -> Option Value} {base : Heap}
theorem scHeads : FnScope ["web", "pick", "heads", "k", "tie", "low", "high"] ["web", "pick"] (defScope sHeads) := ⟨rfl, rfl, rfl, by decide +kernel, rfl, by decide +kernel, by decide +kernel⟩
theorem nd3 : (["head", "high", "low"] : List Str).Nodup := by decide +kernel
theorem d_heads (T : Txt K mg) (S : Src K mg "heads_of" sHeads ["web", "pick"]) : Def P w K mg base 1 "heads_of" ["web", "pick"] (spHeads K) := by
  refine S.def scHeads (fun vs H Q E h => ?_) (fun f cdv A outer s H vs Q E hr h => ?_)
  · obtain ⟨_, _, _, _, _, rfl, _⟩ := h; rfl
  · obtain ⟨wv, pk, n, ps, ks, rfl, W, n1, n9, hb, hk, hks, q⟩ := h
    obtain ⟨c, d, xs, rfl, hc, hd, ht⟩ := W.ex
    obtain ⟨m, rfl⟩ := Int.eq_ofNat_of_zero_le (show 0 <= n by lia)
    refine ⟨_, pss_cons (ps_set (i := 2) scHeads.nd rfl (Or.inl rfl) (pe_callTy (call_list_rng rfl) rfl T.list boot_list' (pa_cons (pe_callTy call_range1 rfl T.range boot_range' (pa_cons (pe_ix (ix_tupK K) (pv 0) pe_int (fun _ _ => rfl)) pa_nil)) pa_nil)))
      (pss_cons (ps_for PassesOwn.never rfl (pi_seqK K .t (pv 1)) (pg_name (i := 3) scHeads.nd rfl (Or.inl rfl))
        (pss_cons (ps_set (i := 4) scHeads.nd rfl (Or.inl rfl) (pe_ix (ix_tupK K) (pe_ix (ix_tupK K) (pv 0) pe_int (fun _ _ => rfl)) (pv 3) (fun _ _ => rfl)))
        (pss_cons (ps_set (i := 5) scHeads.nd rfl (Or.inr rfl) (pe_callB (call_min2 rfl) (by rfl) T.min boot_min' (pa_cons (pe_ix (ix_listK K) (pv 2) (pe_ix (ix_tupK K) (pv 4) pe_int (fun _ _ => rfl)) (fun _ _ => rfl)) (pa_cons (pe_ix (ix_listK K) (pv 2) (pe_ix (ix_tupK K) (pv 4) pe_int (fun _ _ => rfl)) (fun _ _ => rfl)) pa_nil))))
        (pss_cons (ps_set (i := 6) scHeads.nd rfl (Or.inr rfl) (pe_callB (call_max2 rfl) (by rfl) T.max boot_max' (pa_cons (pe_ix (ix_listK K) (pv 2) (pe_ix (ix_tupK K) (pv 4) pe_int (fun _ _ => rfl)) (fun _ _ => rfl)) (pa_cons (pe_ix (ix_listK K) (pv 2) (pe_ix (ix_tupK K) (pv 4) pe_int (fun _ _ => rfl)) (fun _ _ => rfl)) pa_nil))))
        (pss_one (ps_setComp (i := 2) scHeads.nd rfl (Or.inl rfl) (N' := ["head", "high", "low"]) (fr := [none, some 6, some 5]) (compOk_of (by rfl)) rfl (pi_seqK K .l (pv 2))
          (fun _ _ _ _ => pg_name (i := 0) nd3 rfl (Or.inl rfl) (Or.inr rfl)) (fun _ _ _ _ => pifs_nil)
          (fun _ _ _ _ => pe_ifExp (pt_cmpR op_eq (pv 0) (pv 1) (nomark _)) (pv 2) (pv 0))))))))
      (pss_one (ps_ret (pv 2)))), ?_⟩
    have i0 : atI ([.int m, .ref d] : List V) 0 = some (.int m) := atI_nat (j := 0) rfl
    have i1 : atI ([.int m, .ref d] : List V) 1 = some (.ref d) := atI_nat (j := 1) rfl
    refine ⟨_, rfl, c, _, _, _, rfl, rfl, SqT.of hc, i0, _, rfl, fun p hp => ⟨p, m, rfl, upd_same, by lia, fun l hl => ?_⟩⟩
    have s1 := (Same.new (o := HO.rng 0 m) hp).trans (Same.new (o := HO.lst (upN m)) hl)
    have hl1 : (upd (upd H p (.rng 0 m)) l (.lst (upN m))) l = some (.lst ((ups m).map V.int)) := by rw [upd_same, upN_ups]
    generalize upd (upd H p (.rng 0 m)) l (.lst (upN m)) = H1 at s1 hl1 ⊢
    refine ⟨_, rfl, pk, rfl, ⟨_, s1.tup hk⟩, for_seqK (k := .t) (K := K) (a := pk) (xs := ks.map V.int) (fun i σ H' => ∃ l u v t r, σ = [some (.ref c), some (.ref pk), some (.ref l), u, v, t, r] /\ Same H H' /\ H' l = some (.lst ((hdF ps (ups m) (ks.take i)).map V.int))) ⟨l, _, _, _, _, rfl, s1, hl1⟩ (fun i σ H' _ ⟨_, _, _, _, _, _, z, _⟩ => z.tup hk) ?_ ?_⟩
    · rintro i x σ H' hx ⟨l, u, v, t, r, rfl, sm, hl⟩
      obtain ⟨k, ek, rfl⟩ : ∃ k, ks[i]? = some k /\ V.int k = x := by
        rw [List.getElem?_map] at hx
        cases e : ks[i]? with
        | none => rw [e] at hx; simp at hx
        | some k => rw [e] at hx; simp at hx; exact ⟨k, rfl, hx⟩
      obtain ⟨k0, kl⟩ := hks k (List.mem_of_getElem? ek)
      obtain ⟨tc, et, htc⟩ := at_tie ht k0 kl
      obtain ⟨b1, b2, b3, b4⟩ := tieN_in hb k0 kl
      generalize hhs : hdF ps (ups m) (ks.take i) = hs at hl
      have hsl : hs.length = m := by rw [<- hhs, hdF_len, ups_len]; simp
      have t0 : atI ([.int (tieN ps k).1, .int (tieN ps k).2] : List V) 0 = some (.int (tieN ps k).1) := atI_nat (j := 0) rfl
      have t1 : atI ([.int (tieN ps k).1, .int (tieN ps k).2] : List V) 1 = some (.int (tieN ps k).2) := atI_nat (j := 1) rfl
      have a0 := at_int (l := hs) (i := (tieN ps k).1) b1 (by lia)
      have a1 := at_int (l := hs) (i := (tieN ps k).2) b3 (by lia)
      have htc' := sm _ _ htc
      dsimp only [gName, List.set]
      refine ⟨_, rfl, c, _, _, _, rfl, rfl, SqT.of (sm _ _ hc), i1, _, rfl, d, _, _, _, rfl, rfl, SqT.of (sm _ _ hd), et, ?_⟩
      refine ⟨_, rfl, _, rfl, tc, _, _, _, rfl, rfl, SqT.of htc', t0, l, _, _, _, rfl, rfl, SqL.of hl, a0, _, rfl, _, rfl, tc, _, _, _, rfl, rfl, SqT.of htc', t1, l, _, _, _, rfl, rfl, SqL.of hl, a1, _, _, rfl, ?_⟩
      refine ⟨_, rfl, _, rfl, tc, _, _, _, rfl, rfl, SqT.of htc', t0, l, _, _, _, rfl, rfl, SqL.of hl, a0, _, rfl, _, rfl, tc, _, _, _, rfl, rfl, SqT.of htc', t1, l, _, _, _, rfl, rfl, SqL.of hl, a1, _, _, rfl, ?_⟩
      generalize hlow : (if at0 hs (tieN ps k).2 < at0 hs (tieN ps k).1 then at0 hs (tieN ps k).2 else at0 hs (tieN ps k).1) = low
      generalize hhigh : (if at0 hs (tieN ps k).2 > at0 hs (tieN ps k).1 then at0 hs (tieN ps k).2 else at0 hs (tieN ps k).1) = high
      refine ⟨_, rfl, l, rfl, ⟨_, SqL.of hl⟩, comp_seq (k := .l) (a := l) (xs := hs.map V.int) (fun σ => ∃ v, σ = [v, some (.int high), some (.int low)]) (fun j ys H2 => H2 = H' /\ ys = (hs.take j).map fun h => V.int (if h = high then low else h)) ⟨_, rfl⟩ ⟨rfl, rfl⟩ (by rw [List.length_map]; exact ten_line (by lia)) (fun j ys H2 _ z => SqL.of (by rw [z.1]; exact hl)) ?_ ?_⟩
      · rintro j x ys σ H2 N hx ⟨u, rfl⟩ ⟨rfl, rfl⟩ hN
        obtain ⟨h0, eh, rfl⟩ : ∃ h0, hs[j]? = some h0 /\ V.int h0 = x := by
          rw [List.getElem?_map] at hx
          cases e : hs[j]? with
          | none => rw [e] at hx; simp at hx
          | some k => rw [e] at hx; simp at hx; exact ⟨k, rfl, hx⟩
        dsimp only [gName, List.set]
        refine yesT ?_
        refine ⟨_, rfl, _, rfl, rfl, _, rfl, ?_⟩
        by_cases he : h0 = high
        · rw [decide_eq_true (show V.int h0 = V.int high by rw [he])]
          refine iteT ⟨_, rfl, ?_⟩
          refine hN _ _ _ ⟨_, rfl⟩ ⟨rfl, ?_⟩ (by simp)
          rw [take_succ_of eh, List.map_append, List.map_cons, List.map_nil, if_pos he]
        · rw [decide_eq_false (show ¬ V.int h0 = V.int high from fun z => he (by injection z))]
          refine iteF ⟨_, rfl, ?_⟩
          refine hN _ _ _ ⟨_, rfl⟩ ⟨rfl, ?_⟩ (by simp)
          rw [take_succ_of eh, List.map_append, List.map_cons, List.map_nil, if_neg he]
      · rintro ys H2 ⟨rfl, rfl⟩ p2 hp2
        refine ⟨p2, _, _, _, _, rfl, sm.trans (Same.new hp2), ?_⟩
        rw [upd_same, take_succ_of ek, hdF_snoc, hhs]
        unfold stepH
        rw [hlow, hhigh, List.length_map, List.take_length, List.map_map]
        rfl
    · rintro σ H' ⟨l, u, v, t, r, rfl, sm, hl⟩
      rw [List.length_map, List.take_length] at hl
      exact ⟨_, rfl, q l H' sm hl⟩
end
def spWPF : Sp := fun vs H Q _ => ∃ (wv : V) (n : Int) (ps : List (Int × Int)), vs = [wv] /\ WebAt H wv n ps /\ ps.length <= 8 /\ ∀ t H', Same H H' -> FzT H' t ((ups ps.length).map V.int) -> Q (.ref t) H'
section
variable {P : Program} {w : World} {K : W.Frag} {mg : Str -> Option Value} {base : Heap}
theorem scWP : FnScope ["web"] ["web"] (defScope sWhole) := ⟨rfl, rfl, rfl, by decide +kernel, rfl, by decide +kernel, by decide +kernel⟩
theorem d_wp (T : Txt K mg) (S : Src K mg "whole_pick" sWhole ["web"]) : Def P w K mg base 1 "whole_pick" ["web"] spWPF := by
  refine S.def scWP (fun vs H Q E h => ?_) (fun f cdv A outer s H vs Q E hr h => ?_)
  · obtain ⟨i, _, _, rfl, _⟩ := h; rfl
  · obtain ⟨wv, n, ps, rfl, W, hl8, q⟩ := h
    obtain ⟨c, d, xs, rfl, hc, hd, ht⟩ := W.ex
    have xl : xs.length = ps.length := Paired.length ht
    refine ⟨_, pss_one (ps_ret (pe_callTy (call_tuple_rngF rfl) rfl T.tuple boot_tuple' (pa_cons (pe_callTy call_range1 rfl T.range boot_range' (pa_cons (pe_callB (call_lenK K) (by rfl) T.len PySem.boot_len (pa_cons (pe_ix (ix_tupK K) (pv 0) pe_int (fun _ _ => rfl)) pa_nil)) pa_nil)) pa_nil))), ?_⟩
    have i1 : atI ([.int n, .ref d] : List V) 1 = some (.ref d) := atI_nat (j := 1) rfl
    refine ⟨_, rfl, c, _, _, _, rfl, rfl, SqT.of hc, i1, d, xs, rfl, .inr (SqT.of hd), _, rfl, fun p hp => ⟨p, xs.length, rfl, upd_same, by lia, fun l o oc od hl => ?_⟩⟩
    refine q l _ ((Same.new hp).trans (Same.new hl)) ?_
    rw [upN_ups, xl]
    exact FzT.new oc od
end
def spRank (K : W.Frag) : Sp := fun vs H Q _ => ∃ (wv : V) (pk : Addr) (n : Int) (ps : List (Int × Int)) (ks : List Int), vs = [wv, .ref pk] /\ WebAt H wv n ps /\ 1 <= n /\ n <= 9 /\ (∀ p ∈ ps, InN n p) /\ SqT K H pk (ks.map V.int) /\ Ks ps.length ks /\
  ∀ H', Same H H' -> Q (.int (n - (dcount (hdF ps (ups n) ks) : Int))) H'
section
variable {P : Program} {w : World} {K : W.Frag} {mg : Str -> Option Value} {base : Heap}
theorem scRank : FnScope ["web", "pick"] ["web", "pick"] (defScope sRank) := ⟨rfl, rfl, rfl, by decide +kernel, rfl, by decide +kernel, by decide +kernel⟩
theorem d_rank (T : Txt K mg) (hset : mg "set" = none) (S : Src K mg "rank_of" sRank ["web", "pick"]) (DH : Def P w K mg base 1 "heads_of" ["web", "pick"] (spHeads K)) : Def P w K mg base 2 "rank_of" ["web", "pick"] (spRank K) := by
  refine S.def scRank (fun vs H Q E h => ?_) (fun f cdv A outer s H vs Q E hr h => ?_)
  · obtain ⟨_, _, _, _, _, rfl, _⟩ := h; rfl
  · obtain ⟨wv, pk, n, ps, ks, rfl, W, n1, n9, hb, hk, hks, q⟩ := h
    obtain ⟨c, d, xs, rfl, hc, hd, ht⟩ := W.ex
    refine ⟨_, pss_one (ps_ret (pe_op op_sub (pe_ix (ix_tupK K) (pv 0) pe_int (fun _ _ => rfl)) (pe_callB call_len_setH (by rfl) T.len PySem.boot_len (pa_cons (pe_callTy (call_set_ints rfl) rfl hset boot_set' (pa_cons (pe_def DH hr rfl (pa_cons (pv 0) (pa_cons (pv 1) pa_nil))) pa_nil)) pa_nil)))), ?_⟩
    have i0 : atI ([.int n, .ref d] : List V) 0 = some (.int n) := atI_nat (j := 0) rfl
    refine ⟨_, rfl, c, _, _, _, rfl, rfl, SqT.of hc, i0, _, rfl, _, rfl, .ref c, pk, n, ps, ks, rfl, W, n1, n9, hb, hk, hks, fun l H1 s1 hl => ?_⟩
    refine ⟨l, _, rfl, SqL.of hl, by rw [hdF_len, ups_len]; lia, fun a S0 ha => ⟨a, S0, _, rfl, upd_same, _, _, rfl, rfl, ?_⟩⟩
    exact q _ (s1.trans (Same.new ha))
end
def spRankW (K : W.Frag) : Sp := fun vs H Q _ => ∃ (wv : V) (n : Int) (ps : List (Int × Int)), vs = [wv] /\ WebAt H wv n ps /\ 1 <= n /\ n <= 9 /\ (∀ p ∈ ps, InN n p) /\ ps.length <= 8 /\
  ∀ H', Same H H' -> Q (.int (n - (dcount (hdF ps (ups n) (ups ps.length)) : Int))) H'
theorem ups_ks (m : Nat) : Ks m (ups m) := by
  intro k hk
  unfold ups at hk
  obtain ⟨i, hi, rfl⟩ := List.mem_map.mp hk
  have : i < (m : Int).toNat := List.mem_range.mp hi
  lia
section
variable {P : Program} {w : World} {K : W.Frag} {mg : Str -> Option Value} {base : Heap}
theorem scRankW : FnScope ["web"] ["web"] (defScope sRankW) := ⟨rfl, rfl, rfl, by decide +kernel, rfl, by decide +kernel, by decide +kernel⟩
theorem d_rankw (S : Src K mg "rank_of_web" sRankW ["web"]) (DP : Def P w K mg base 1 "whole_pick" ["web"] spWPF) (DR : Def P w K mg base 2 "rank_of" ["web", "pick"] (spRank K)) : Def P w K mg base 3 "rank_of_web" ["web"] (spRankW K) := by
  refine S.def scRankW (fun vs H Q E h => ?_) (fun f cdv A outer s H vs Q E hr h => ?_)
  · obtain ⟨_, _, _, rfl, _⟩ := h; rfl
  · obtain ⟨wv, n, ps, rfl, W, n1, n9, hb, hl8, q⟩ := h
    have hr1 : Room 1 _ := hr.mono (by decide)
    have hr2 : Room 2 _ := hr.mono (by decide)
    refine ⟨_, pss_one (ps_ret (pe_def DR hr2 rfl (pa_cons (pv 0) (pa_cons (pe_def DP hr1 rfl (pa_cons (pv 0) pa_nil)) pa_nil)))), ?_⟩
    refine ⟨_, rfl, _, rfl, wv, n, ps, rfl, W, hl8, fun t H1 s1 ht1 => ?_⟩
    exact ⟨wv, t, n, ps, ups ps.length, rfl, W.same s1, n1, n9, hb, FzT.sq ht1, ups_ks _, fun H2 s2 => q H2 (s1.trans s2)⟩
end
end My
namespace My
def first (p : List Int) : Int := match p.getLast? with | none => 0 | some x => x + 1
def more (m : Int) (p : List Int) : List (List Int) := (List.range (m - first p).toNat).map fun (k : Nat) => p ++ [first p + (k : Int)]
def level (m : Int) : Nat -> List (List Int)
  | 0 => [[]]
  | s + 1 => (level m s).flatMap (more m)
def upto (m : Int) : Nat -> List (List Int)
  | 0 => []
  | s + 1 => upto m s ++ level m s
def lexLe' (z : Bool) : List Int -> List Int -> Bool
  | [], _ => z
  | _ :: _, [] => z
  | x :: xs, y :: ys => if x = y then lexLe' z xs ys else decide (x <= y)
def leq (p q : List Int) : Bool := if p.length = q.length then lexLe' (decide (p.length <= q.length)) p q else decide (p.length <= q.length)
def rising : List Int -> Bool
  | [] => true
  | [_] => true
  | x :: y :: r => decide (x < y) && rising (y :: r)
def okPick (m : Int) (p : List Int) : Bool := p.all (fun x => decide (0 <= x) && decide (x < m)) && rising p && decide (p.length <= 8)
def ordered : List (List Int) -> Bool
  | [] => true
  | [_] => true
  | p :: q :: r => decide (p ≠ q) && !leq q p && ordered (q :: r)
def chk (m : Int) : Bool :=
  (level m (m.toNat + 1)).isEmpty && (List.range (m.toNat + 1)).all (fun j => !(level m j).isEmpty && decide ((level m j).length <= 100) && decide ((upto m j).length <= 300)) && decide ((upto m (m.toNat + 1)).length = 2 ^ m.toNat) &&
  (upto m (m.toNat + 1)).all (okPick m) && ordered (upto m (m.toNat + 1)) && decide ((upto m (m.toNat + 1)).length <= 300)
theorem chk_all : ∀ m ∈ ([0, 1, 2, 3, 4, 5, 6, 7, 8] : List Int), chk m = true := by decide +kernel
end My
namespace My
theorem chk_of {m : Int} (h0 : 0 <= m) (h8 : m <= 8) : chk m = true := by
  refine chk_all m ?_
  have : m = 0 \/ m = 1 \/ m = 2 \/ m = 3 \/ m = 4 \/ m = 5 \/ m = 6 \/ m = 7 \/ m = 8 := by lia
  rcases this with rfl | rfl | rfl | rfl | rfl | rfl | rfl | rfl | rfl <;> decide
structure PicksOk (m : Int) : Prop where
  fin : level m (m.toNat + 1) = []
  ne : ∀ j, j <= m.toNat -> level m j ≠ []
  len : ∀ j, j <= m.toNat + 1 -> (level m j).length <= 100
  ulen : ∀ j, j <= m.toNat + 1 -> (upto m j).length <= 300
  many : (upto m (m.toNat + 1)).length = 2 ^ m.toNat
  ok : ∀ p ∈ upto m (m.toNat + 1), okPick m p = true
  ord : ordered (upto m (m.toNat + 1)) = true
theorem picks_ok {m : Int} (h0 : 0 <= m) (h8 : m <= 8) : PicksOk m := by
  have h := chk_of h0 h8
  unfold chk at h
  simp only [Bool.and_eq_true, List.all_eq_true, decide_eq_true_eq, Bool.not_eq_true', List.mem_range] at h
  obtain ⟨⟨⟨⟨⟨h1, h2⟩, h3⟩, h4⟩, h5⟩, h6⟩ := h
  have e1 : level m (m.toNat + 1) = [] := List.isEmpty_iff.mp h1
  refine ⟨e1, fun j hj e => ?_, fun j hj => ?_, fun j hj => ?_, h3, h4, h5⟩
  · have := (h2 j (by lia)).1.1
    rw [e] at this
    cases this
  · by_cases hj' : j = m.toNat + 1
    · rw [hj', e1]; exact Nat.zero_le _
    · exact (h2 j (by lia)).1.2
  · by_cases hj' : j = m.toNat + 1
    · rw [hj']; exact h6
    · exact (h2 j (by lia)).2
theorem upto_mem {m : Int} {p : List Int} : ∀ {n j : Nat}, j < n -> p ∈ level m j -> p ∈ upto m n
  | n + 1, j, h, hp => by
    show p ∈ upto m n ++ level m n
    by_cases e : j = n
    · subst e; exact List.mem_append_right _ hp
    · exact List.mem_append_left _ (upto_mem (by lia) hp)
theorem okPick_in {m : Int} {p : List Int} (h : okPick m p = true) : (∀ x ∈ p, 0 <= x /\ x < m) /\ rising p = true /\ p.length <= 8 := by
  unfold okPick at h
  simp only [Bool.and_eq_true, List.all_eq_true, decide_eq_true_eq] at h
  exact ⟨fun x hx => h.1.1 x hx, h.1.2, h.2⟩
theorem first_nn {m : Int} {p : List Int} (h : ∀ x ∈ p, 0 <= x /\ x < m) (h0 : 0 <= m) : 0 <= first p /\ first p <= m := by
  unfold first
  cases e : p.getLast? with
  | none => exact ⟨Int.le_refl _, h0⟩
  | some x =>
    have := h x (List.mem_of_getLast? e)
    simp only
    lia
end My
namespace My
open PySem L2
def TupAt (H : Hp) (v : V) (p : List Int) : Prop := ∃ a, v = .ref a /\ H a = some (.tup (p.map V.int))
theorem TupAt.same {H H' : Hp} {v : V} {p : List Int} (h : TupAt H v p) (e : Same H H') : TupAt H' v p := let ⟨a, h1, h2⟩ := h; ⟨a, h1, e _ _ h2⟩
theorem tups_same {H H' : Hp} {xs : List V} {ps : List (List Int)} (h : Paired (TupAt H) xs ps) (e : Same H H') : Paired (TupAt H') xs ps := L2.Paired.mapP h fun _ _ q => q.same e
theorem pair_app {α β : Type} {F : α -> β -> Prop} : ∀ {l₁ m₁ : List α} {l₂ m₂ : List β}, Paired F l₁ l₂ -> Paired F m₁ m₂ -> Paired F (l₁ ++ m₁) (l₂ ++ m₂)
  | _, _, _, _, .nil, h => h
  | _, _, _, _, .cons r t, h => .cons r (pair_app t h)
theorem tups_but {g : Addr} {H H' : Hp} {zs xs : List V} {ps : List (List Int)} (hg : H g = some (.lst zs)) (b : ∀ c o, c ≠ g -> H c = some o -> H' c = some o) (h : Paired (TupAt H) xs ps) : Paired (TupAt H') xs ps :=
  L2.Paired.mapP h fun _ _ ⟨a, e1, e2⟩ => ⟨a, e1, b _ _ (ne_of e2 hg (by intro z; cases z)) e2⟩
theorem Same.put' {H H2 : Hp} {p : Addr} {o : HO} (s : Same H H2) (h : H p = none) : Same H (upd H2 p o) := fun b u e => by rw [upd_ne (ne_of_none e h)]; exact s b u e
def spMore (K : W.Frag) : Sp := fun vs H Q _ => ∃ (l : Addr) (m : Int) (xs : List V) (ps : List (List Int)), vs = [.ref l, .int m] /\ H l = some (.lst xs) /\ Paired (TupAt H) xs ps /\ 0 <= m /\ m <= 8 /\ ps.length <= 100 /\ (∀ p ∈ ps, okPick m p = true) /\
  ∀ g ys H', Same H H' -> H g = none -> H' g = some (.lst ys) -> Paired (TupAt H') ys (ps.flatMap (more m)) -> Q (.ref g) H'
theorem more_len {m : Int} {p : List Int} (h : okPick m p = true) (h0 : 0 <= m) (h8 : m <= 8) : (more m p).length <= 8 := by
  have := first_nn (okPick_in h).1 h0
  unfold more
  rw [List.length_map, List.length_range]
  lia
theorem flat_len {m : Int} (h0 : 0 <= m) (h8 : m <= 8) : ∀ {ps : List (List Int)}, (∀ p ∈ ps, okPick m p = true) -> (ps.flatMap (more m)).length <= 8 * ps.length
  | [], _ => by simp
  | p :: ps, h => by
    rw [List.flatMap_cons, List.length_append, List.length_cons]
    have h1 := more_len (h p (List.mem_cons_self)) h0 h8
    have h2 := flat_len h0 h8 (ps := ps) fun q hq => h q (List.mem_cons_of_mem _ hq)
    lia
section
variable {P : Program} {w : World} {K : W.Frag} {mg : Str -> Option Value} {base : Heap}
theorem scMore : FnScope ["picks", "many", "greater", "pick", "first"] ["picks", "many"] (defScope sMore) := ⟨rfl, rfl, rfl, by decide +kernel, rfl, by decide +kernel, by decide +kernel⟩
theorem d_more (T : Txt K mg) (S : Src K mg "with_one_more" sMore ["picks", "many"]) : Def P w K mg base 1 "with_one_more" ["picks", "many"] (spMore K) := by
  refine S.def scMore (fun vs H Q E h => ?_) (fun f cdv A outer s H vs Q E hr h => ?_)
  · obtain ⟨l, m, xs, ps, rfl, _⟩ := h; rfl
  · obtain ⟨l, m, xs, ps, rfl, hl, hp, m0, m8, hlen, hok, q⟩ := h
    have xl : xs.length = ps.length := Paired.length hp
    refine ⟨_, pss_cons (ps_set (i := 2) scMore.nd rfl (Or.inl rfl) (pe_lst pa_nil))
      (pss_cons (ps_for PassesOwn.never rfl (pi_list (pv 0)) (pg_name (i := 3) scMore.nd rfl (Or.inr rfl))
        (pss_cons (ps_set (i := 4) scMore.nd rfl (Or.inl rfl) (pe_ifExp (pt_truth (pv 3) (fun _ => rfl)) (pe_op op_add (pe_ix (ix_tupK K) (pv 3) (pe_un un_neg pe_int) (fun _ _ => rfl)) pe_int) pe_int))
        (pss_one (ps_expr (pe_bm PySem.F.plainAttrs_list PySem.F.slot_list_extend PySem.F.type_list_extend mt_extend (pv 2) (pa_cons (pe_comp (N' := ["k", "pick"]) (fr := [none, some 3]) (compOk_of (by rfl)) rfl (pi_range2 rfl T.range (pa_cons (pv 4) (pa_cons (pv 1) pa_nil)))
          (fun _ _ _ _ => pg_name (i := 0) (show (["k", "pick"] : List Str).Nodup by decide +kernel) rfl (Or.inl rfl) (Or.inr rfl)) (fun _ _ _ _ => pifs_nil)
          (fun _ _ _ _ => pe_op (r := fun x y H Q => rCat0 K x y H Q \/ rCatT K x y H Q) (OpR.or op_cat0 op_catT) (pv 1) (pe_tup (pa_cons (pv 0) pa_nil)))) pa_nil))))))
      (pss_one (ps_ret (pv 2)))), ?_⟩
    refine ⟨Nat.zero_le _, fun g hg => ?_⟩
    have ngl : l ≠ g := ne_of_none hl hg
    have s0 := Same.new (o := HO.lst []) hg
    have g0 : (upd H g (.lst [])) g = some (.lst []) := upd_same
    generalize upd H g (.lst []) = H1 at s0 g0 ⊢
    refine ⟨_, rfl, l, rfl, ⟨_, SqL.of (s0 _ _ hl)⟩, for_list (K := K) (a := l) (xs := xs) (fun i σ H2 => (∃ u v, σ = [some (.ref l), some (.int m), some (.ref g), u, v]) /\ Same H H2 /\ ∃ ys, H2 g = some (.lst ys) /\ Paired (TupAt H2) ys ((ps.take i).flatMap (more m)))
      ⟨⟨_, _, rfl⟩, s0, [], g0, .nil⟩ (fun i σ H2 _ z => SqL.of (z.2.1 _ _ hl)) ?_ ?_⟩
    · rintro i x σ H2 hx ⟨⟨u, v, rfl⟩, s2, ys, hg2, hy⟩
      obtain ⟨p, e1, c, rfl, hc⟩ := Paired.at hp hx
      have pm : p ∈ ps := List.mem_of_getElem? e1
      have ok := okPick_in (hok p pm)
      have fn := first_nn ok.1 m0
      have hc2 := s2 _ _ hc
      have fin : ∀ (f : Int), f = first p -> tDrop (tBM K "list" rExtend (tVar 2) (tCons (tComp (iRng2 (tCons (tVar 4) (tCons (tVar 1) tNil))) [none, some 3] (gName 0) tYes
          (tOp (fun x y H Q => rCat0 K x y H Q \/ rCatT K x y H Q) (tVar 1) (tTup (tCons (tVar 0) tNil)))) tNil))
          { nx := fun σ H2 => (∃ u v, σ = [some (.ref l), some (.int m), some (.ref g), u, v]) /\ Same H H2 /\ ∃ ys, H2 g = some (.lst ys) /\ Paired (TupAt H2) ys ((ps.take (i + 1)).flatMap (more m)), rt := Q } [some (.ref l), some (.int m), some (.ref g), some (.ref c), some (.int f)] H2 := by
        rintro f rfl
        refine ⟨_, rfl, .inl ⟨rfl, _, SqL.of hg2⟩, _, rfl, _, rfl, _, _, rfl, ⟨by lia, by lia, by lia, by lia⟩, ?_⟩
        refine comp_range (S := fun σ => ∃ v, σ = [v, some (.ref c)]) (Pv := fun j zs H3 => Same H2 H3 /\ Paired (TupAt H3) zs ((List.range j).map fun (k : Nat) => p ++ [first p + (k : Int)])) ⟨_, rfl⟩ ⟨Same.refl _, .nil⟩ (Nat.lt_of_le_of_lt (show (m - first p).toNat <= 8 by lia) (by decide)) ?_ ?_
        · rintro j zs σ H3 N hj ⟨u', rfl⟩ ⟨s3, hz⟩ hN
          dsimp only [gName, List.set]
          refine yesT ?_
          have hc3 := s3 _ _ hc2
          refine ⟨_, rfl, _, rfl, by show 1 <= sizeLine; decide, fun d hd => ?_⟩
          have s4 := Same.new (o := HO.tup [.int (first p + (j : Int))]) hd
          have hd4 : (upd H3 d (.tup [.int (first p + (j : Int))])) d = some (.tup [.int (first p + (j : Int))]) := upd_same
          generalize upd H3 d (.tup [.int (first p + (j : Int))]) = H4 at s4 hd4 ⊢
          have go : ∀ (v : V) (H5 : Hp), Same H4 H5 -> TupAt H5 v (p ++ [first p + (j : Int)]) -> N (zs ++ [v]) [some (.int (first p + (j : Int))), some (.ref c)] H5 := fun v H5 s5 hv => by
            refine hN _ _ _ ⟨_, rfl⟩ ⟨s3.trans (s4.trans s5), ?_⟩ (by simp)
            rw [List.range_succ, List.map_append]
            exact L2.Paired.snoc (tups_same hz (s4.trans s5)) hv
          cases p with
          | nil =>
            exact .inl ⟨c, d, _, rfl, rfl, SqT.of (s4 _ _ hc3), SqT.of hd4, go _ _ (Same.refl _) ⟨d, rfl, hd4⟩⟩
          | cons p0 pr =>
            refine .inr ⟨c, d, _, _, rfl, rfl, SqT.of (s4 _ _ hc3), SqT.of hd4, by simp, ?_, (fun z => nomatch z), fun _ r hr4 => ?_⟩
            · have := ok.2.2
              rw [List.length_map]
              exact Nat.le_trans (Nat.add_le_add_right this _) (by show 8 + 1 <= sizeLine; decide)
            · refine go _ _ (Same.new hr4) ⟨r, rfl, ?_⟩
              rw [List.map_append]
              exact upd_same
        · rintro zs H3 ⟨s3, hz⟩ r hr3
          have e2 : (List.range (m - first p).toNat).map (fun (k : Nat) => p ++ [first p + (k : Int)]) = more m p := rfl
          rw [e2] at hz
          have s4 := Same.new (o := HO.lst zs) hr3
          have hr4 : (upd H3 r (.lst zs)) r = some (.lst zs) := upd_same
          generalize upd H3 r (.lst zs) = H4 at s4 hr4 ⊢
          have hg4 := s4 _ _ (s3 _ _ hg2)
          have y4 := tups_same hy (s3.trans s4)
          have z4 := tups_same hz s4
          have yl : ys.length = ((ps.take i).flatMap (more m)).length := Paired.length hy
          have zl : zs.length = (more m p).length := Paired.length hz
          have l1 := flat_len m0 m8 (ps := ps.take i) fun q hq => hok q (List.mem_of_mem_take hq)
          have l2 := more_len (hok p pm) m0 m8
          have l3 : (ps.take i).length <= 100 := Nat.le_trans (by rw [List.length_take]; exact Nat.min_le_right _ _) hlen
          refine ⟨g, r, ys, zs, rfl, rfl, hg4, hr4, Nat.le_trans (show ys.length + zs.length <= 1000 by lia) (by decide), ?_⟩
          refine ⟨⟨_, _, rfl⟩, Same.put' (s2.trans (s3.trans s4)) hg, ys ++ zs, upd_same, ?_⟩
          have b : ∀ (cc : Addr) (o : HO), cc ≠ g -> H4 cc = some o -> (upd H4 g (.lst (ys ++ zs))) cc = some o := fun cc o h1 h2 => by rw [upd_ne h1]; exact h2
          rw [take_succ_of e1, List.flatMap_append]
          refine pair_app (tups_but hg4 b y4) ?_
          rw [List.flatMap_cons, List.flatMap_nil, List.append_nil]
          exact tups_but hg4 b z4
      refine ⟨_, rfl, _, .inr (.inl ⟨_, SqT.of hc2, rfl⟩), ?_⟩
      cases p with
      | nil => exact iteF (fin 0 rfl)
      | cons p0 pr =>
        refine iteT ?_
        obtain ⟨ini, z, ez⟩ : ∃ ini z, p0 :: pr = ini ++ [z] := ⟨(p0 :: pr).dropLast, (p0 :: pr).getLast (by simp), (List.dropLast_concat_getLast (by simp)).symm⟩
        have ea : atI ((p0 :: pr).map V.int) (-1) = some (V.int z) := by rw [ez, List.map_append]; exact atI_last _ _
        refine ⟨_, rfl, _, rfl, c, _, _, _, rfl, rfl, SqT.of hc2, ea, _, _, rfl, rfl, ?_⟩
        refine fin (z + 1) ?_
        rw [ez]
        unfold first
        rw [List.getLast?_append]
        rfl
    · rintro σ H2 ⟨⟨u, v, rfl⟩, s2, ys, hg2, hy⟩
      rw [show ps.take xs.length = ps by rw [xl]; exact List.take_length] at hy
      exact ⟨_, rfl, q g ys H2 s2 hg hg2 hy⟩
end
def spAll (K : W.Frag) : Sp := fun vs H Q _ => ∃ (wv : V) (n : Int) (ps : List (Int × Int)), vs = [wv] /\ WebAt H wv n ps /\ ps.length <= 8 /\
  ∀ g ys H', Same H H' -> H g = none -> H' g = some (.lst ys) -> Paired (TupAt H') ys (upto (ps.length : Int) (ps.length + 1)) -> Q (.ref g) H'
section
variable {P : Program} {w : World} {K : W.Frag} {mg : Str -> Option Value} {base : Heap}
theorem scAll : FnScope ["web", "many", "picks", "of_one_size"] ["web"] (defScope sAll) := ⟨rfl, rfl, rfl, by decide +kernel, rfl, by decide +kernel, by decide +kernel⟩
theorem d_all (T : Txt K mg) (S : Src K mg "all_picks" sAll ["web"]) (DM : Def P w K mg base 1 "with_one_more" ["picks", "many"] (spMore K)) : Def P w K mg base 2 "all_picks" ["web"] (spAll K) := by
  refine S.def scAll (fun vs H Q E h => ?_) (fun f cdv A outer s H vs Q E hr h => ?_)
  · obtain ⟨wv, n, ps, rfl, _⟩ := h; rfl
  · obtain ⟨wv, n, ps, rfl, W, hlen, q⟩ := h
    obtain ⟨c, d, xs, rfl, hc, hd, ht⟩ := W.ex
    have xl : xs.length = ps.length := Paired.length ht
    refine ⟨_, pss_cons (ps_set (i := 1) scAll.nd rfl (Or.inl rfl) (pe_callB (call_lenK K) (by rfl) T.len PySem.boot_len (pa_cons (pe_ix (ix_tupK K) (pv 0) pe_int (fun _ _ => rfl)) pa_nil)))
      (pss_cons (ps_set (i := 2) scAll.nd rfl (Or.inl rfl) (pe_lst pa_nil))
      (pss_cons (ps_set (i := 3) scAll.nd rfl (Or.inl rfl) (pe_lst (pa_cons (pe_tup pa_nil) pa_nil)))
      (pss_cons (ps_while PassesOwn.never (pt_truth (pv 3) (fun _ => rfl))
        (pss_cons (ps_expr (pe_bm PySem.F.plainAttrs_list PySem.F.slot_list_extend PySem.F.type_list_extend mt_extend (pv 2) (pa_cons (pv 3) pa_nil)))
        (pss_one (ps_set (i := 3) scAll.nd rfl (Or.inl rfl) (pe_def DM hr rfl (pa_cons (pv 3) (pa_cons (pv 1) pa_nil)))))))
      (pss_one (ps_ret (pv 2)))))), ?_⟩
    have i1 : atI ([.int n, .ref d] : List V) 1 = some (.ref d) := atI_nat (j := 1) rfl
    refine ⟨_, rfl, c, _, _, _, rfl, rfl, SqT.of hc, i1, d, xs, rfl, .inr (SqT.of hd), ?_⟩
    rw [xl]
    have m0 : (0 : Int) <= (ps.length : Int) := by lia
    have m8 : (ps.length : Int) <= 8 := by lia
    have PO := picks_ok m0 m8
    have tn : ((ps.length : Int)).toNat = ps.length := by lia
    rw [<- show ((ps.length : Int)).toNat + 1 = ps.length + 1 by lia] at q
    generalize (ps.length : Int) = m at m0 m8 PO tn q ⊢
    refine ⟨Nat.zero_le _, fun g hg => ?_⟩
    have s1 := Same.new (o := HO.lst []) hg
    have g1 : (upd H g (.lst [])) g = some (.lst []) := upd_same
    generalize upd H g (.lst []) = H1 at s1 g1 ⊢
    refine ⟨Nat.zero_le _, fun e he => ⟨by show 1 <= sizeLine; decide, fun l hl => ?_⟩⟩
    have s2 := Same.new (o := HO.tup []) he
    have s3 := Same.new (o := HO.lst [.ref e]) hl
    have he2 : (upd (upd H1 e (.tup [])) l (.lst [.ref e])) e = some (.tup []) := s3 _ _ upd_same
    have hl2 : (upd (upd H1 e (.tup [])) l (.lst [.ref e])) l = some (.lst [.ref e]) := upd_same
    have s13 := s2.trans s3
    have ngl : g ≠ l := ne_of_none (s2 _ _ g1) hl
    generalize upd (upd H1 e (.tup [])) l (.lst [.ref e]) = H3 at he2 hl2 s13 ⊢
    refine ⟨fun k σ H4 => ∃ (j : Nat) (l : Addr) (zs ys : List V), k = m.toNat + 1 - j /\ j <= m.toNat + 1 /\ σ = [some (.ref c), some (.int m), some (.ref g), some (.ref l)] /\ Same H H4 /\ H4 g = some (.lst ys) /\ Paired (TupAt H4) ys (upto m j) /\ H4 l = some (.lst zs) /\ Paired (TupAt H4) zs (level m j) /\ g ≠ l,
      ⟨_, 0, l, _, [], rfl, Nat.zero_le _, rfl, s1.trans s13, s13 _ _ g1, .nil, hl2, .cons ⟨e, rfl, he2⟩ .nil, ngl⟩, ?_⟩
    rintro k σ H4 ⟨j, l, zs, ys, rfl, hj, rfl, s4, hg4, hy, hl4, hz, ngl⟩
    refine ⟨_, rfl, _, .inl ⟨zs, SqL.of hl4, rfl⟩, ?_⟩
    by_cases hjm : j = m.toNat + 1
    · rw [hjm, PO.fin] at hz
      have ez : zs = [] := by cases hz; rfl
      subst ez
      refine iteF ⟨_, rfl, ?_⟩
      rw [hjm] at hy
      exact q g ys H4 s4 hg hg4 hy
    · have hj' : j <= m.toNat := by lia
      have nz : zs ≠ [] := fun e => PO.ne j hj' (by rw [e] at hz; cases hh : level m j with | nil => rfl | cons a b => rw [hh] at hz; cases hz)
      have ez : (!zs.isEmpty) = true := by cases zs with | nil => exact absurd rfl nz | cons a b => rfl
      rw [ez]
      refine iteT ⟨fun σ' H' => ∃ (j' : Nat) (l : Addr) (zs ys : List V), j' = j + 1 /\ σ' = [some (.ref c), some (.int m), some (.ref g), some (.ref l)] /\ Same H H' /\ H' g = some (.lst ys) /\ Paired (TupAt H') ys (upto m j') /\ H' l = some (.lst zs) /\ Paired (TupAt H') zs (level m j') /\ g ≠ l,
        fun σ' H' h => (by
          obtain ⟨j', l, zs, ys, e, r⟩ := h
          subst e
          exact ⟨_, Nat.sub_lt_sub_left (Nat.lt_succ_of_le hj') (Nat.lt_succ_self j), j + 1, l, zs, ys, rfl, Nat.succ_le_succ hj', r⟩), ?_⟩
      have yl : ys.length = (upto m j).length := Paired.length hy
      have zl : zs.length = (level m j).length := Paired.length hz
      have b1 := PO.ulen j hj
      have b2 := PO.len j hj
      refine ⟨_, rfl, .inl ⟨rfl, _, SqL.of hg4⟩, _, rfl, g, l, ys, zs, rfl, rfl, hg4, hl4, Nat.le_trans (show ys.length + zs.length <= 1000 by lia) (by decide), ?_⟩
      have bt : ∀ (cc : Addr) (o : HO), cc ≠ g -> H4 cc = some o -> (upd H4 g (.lst (ys ++ zs))) cc = some o := fun cc o h1 h2 => by rw [upd_ne h1]; exact h2
      have s5 : Same H (upd H4 g (.lst (ys ++ zs))) := Same.put' s4 hg
      have hg5 : (upd H4 g (.lst (ys ++ zs))) g = some (.lst (ys ++ zs)) := upd_same
      have hl5 := bt l _ ngl.symm hl4
      have y5 := pair_app (tups_but hg4 bt hy) (tups_but hg4 bt hz)
      have z5 := tups_but hg4 bt hz
      generalize upd H4 g (.lst (ys ++ zs)) = H5 at s5 hg5 hl5 y5 z5 ⊢
      refine ⟨_, rfl, _, rfl, l, m, zs, level m j, rfl, hl5, z5, m0, m8, b2, fun p hp => PO.ok p (upto_mem (show j < m.toNat + 1 by lia) hp), fun g2 ws H6 s6 f2 hg6 hw => ?_⟩
      exact ⟨j + 1, g2, ws, ys ++ zs, rfl, rfl, s5.trans s6, s6 _ _ hg5, tups_same y5 s6, hg6, hw, ne_of_none hg5 f2⟩
end
def rkP (n : Int) (ps : List (Int × Int)) (ks : List Int) : Int := n - (dcount (hdF ps (ups n) ks) : Int)
def allP (ps : List (Int × Int)) : List (List Int) := upto (ps.length : Int) (ps.length + 1)
def withP (n : Int) (ps : List (Int × Int)) (s r : Int) : List (List Int) := ((allP ps).filter fun p => decide ((p.length : Int) = s)).filter fun p => decide (rkP n ps p = r)
def rkAll (n : Int) (ps : List (Int × Int)) : Int := rkP n ps (ups ps.length)
def treesP (n : Int) (ps : List (Int × Int)) : List (List Int) := withP n ps (rkAll n ps) (rkAll n ps)
def WebOk (n : Int) (ps : List (Int × Int)) : Prop := (1 <= n /\ n <= 9) /\ (∀ p ∈ ps, InN n p) /\ ps.length <= 8
def spPW (K : W.Frag) : Sp := fun vs H Q _ => ∃ (wv : V) (n s r : Int) (ps : List (Int × Int)), vs = [wv, .int s, .int r] /\ WebAt H wv n ps /\ WebOk n ps /\
  ∀ g ys H', Same H H' -> H g = none -> H' g = some (.lst ys) -> Paired (TupAt H') ys (withP n ps s r) -> Q (.ref g) H'
def spAT (K : W.Frag) : Sp := fun vs H Q _ => ∃ (wv : V) (n : Int) (ps : List (Int × Int)), vs = [wv] /\ WebAt H wv n ps /\ WebOk n ps /\
  ∀ g ys H', Same H H' -> H g = none -> H' g = some (.lst ys) -> Paired (TupAt H') ys (treesP n ps) -> Q (.ref g) H'
def isTr (n : Int) (ps : List (Int × Int)) (ks : List Int) : Bool := decide ((ks.length : Int) = rkAll n ps) && decide (rkP n ps ks = rkAll n ps)
theorem allP_ok {ps : List (Int × Int)} (h8 : ps.length <= 8) : PicksOk (ps.length : Int) := picks_ok (by lia) (by lia)
theorem allP_len {ps : List (Int × Int)} (h8 : ps.length <= 8) : (allP ps).length <= 300 := by
  have := (allP_ok h8).ulen (ps.length + 1) (by lia)
  exact this
theorem allP_in {ps : List (Int × Int)} (h8 : ps.length <= 8) {p : List Int} (hp : p ∈ allP ps) : okPick (ps.length : Int) p = true := by
  refine (allP_ok h8).ok p ?_
  rw [show ((ps.length : Int)).toNat = ps.length by lia]
  exact hp
theorem allP_ks {ps : List (Int × Int)} (h8 : ps.length <= 8) {p : List Int} (hp : p ∈ allP ps) : Ks ps.length p := fun k hk => (okPick_in (allP_in h8 hp)).1 k hk
theorem line300 {n : Nat} (h : n <= 300) : n < sizeLine := Nat.lt_of_le_of_lt h (by decide)
theorem filt_take {α : Type} {l : List α} {i : Nat} {x : α} (f : α -> Bool) (e : l[i]? = some x) : (l.take (i + 1)).filter f = (l.take i).filter f ++ (if f x then [x] else []) := by
  rw [take_succ_of e, List.filter_append]
  congr 1
  cases h : f x <;> simp [h]
theorem dec_int (a b : Int) : decide (V.int a = V.int b) = decide (a = b) := by
  rw [decide_eq_decide]
  exact ⟨fun z => by injection z, fun z => by rw [z]⟩
def rLenSq (K : W.Frag) : List V -> Hp -> VK -> Prop := fun xs H Q => ∃ p ys, xs = [.ref p] /\ (SqL K H p ys \/ SqT K H p ys) /\ Q (.int ys.length) H
section
variable {P : Program} {w : World} {K : W.Frag} {mg : Str -> Option Value} {base : Heap}
theorem scPW : FnScope ["web", "size", "rank", "of_this_size"] ["web", "size", "rank"] (defScope sPW) := ⟨rfl, rfl, rfl, by decide +kernel, rfl, by decide +kernel, by decide +kernel⟩
theorem ndPW1 : (["pick", "size"] : List Str).Nodup := by decide +kernel
theorem ndPW2 : (["pick", "rank", "web"] : List Str).Nodup := by decide +kernel
theorem d_pw (T : Txt K mg) (S : Src K mg "picks_with" sPW ["web", "size", "rank"]) (DA : Def P w K mg base 2 "all_picks" ["web"] (spAll K)) (DR : Def P w K mg base 2 "rank_of" ["web", "pick"] (spRank K)) : Def P w K mg base 3 "picks_with" ["web", "size", "rank"] (spPW K) := by
  refine S.def scPW (fun vs H Q E h => ?_) (fun f cdv A outer s H vs Q E hr h => ?_)
  · obtain ⟨_, _, _, _, _, rfl, _⟩ := h; rfl
  · obtain ⟨wv, n, sz, rn, ps, rfl, W, ⟨⟨n1, n9⟩, hb, h8⟩, q⟩ := h
    have hr2 : Room 2 _ := hr.mono (by decide)
    refine ⟨_, pss_cons (ps_setComp (i := 3) scPW.nd rfl (Or.inl rfl) (N' := ["pick", "size"]) (fr := [none, some 1]) (compOk_of (by rfl)) rfl (pi_seqK K .l (pe_def DA hr2 rfl (pa_cons (pv 0) pa_nil)))
        (fun _ _ _ _ => pg_name (i := 0) ndPW1 rfl (Or.inl rfl) (Or.inr rfl)) (fun _ _ _ _ => pifs_one (pt_cmpR op_eq (pe_callB (r := rLenSq K) (call_lenK K) (by rfl) T.len PySem.boot_len (pa_cons (pv 0) pa_nil)) (pv 1) (nomark _))) (fun _ _ _ _ => pv 0))
      (pss_one (ps_ret (pe_comp (N' := ["pick", "rank", "web"]) (fr := [none, some 2, some 0]) (compOk_of (by rfl)) rfl (pi_seqK K .l (pv 3))
        (fun _ _ _ _ => pg_name (i := 0) ndPW2 rfl (Or.inl rfl) (Or.inr rfl)) (fun _ _ _ _ => pifs_one (pt_cmpR op_eq (pe_def DR hr2 rfl (pa_cons (pv 2) (pa_cons (pv 0) pa_nil))) (pv 1) (nomark _))) (fun _ _ _ _ => pv 0)))), ?_⟩
    refine ⟨_, rfl, wv, n, ps, rfl, W, h8, fun g ys H1 s1 hgN hg hy => ?_⟩
    have hy : Paired (TupAt H1) ys (allP ps) := hy
    have al : ys.length = (allP ps).length := Paired.length hy
    have al3 := allP_len h8
    refine ⟨g, rfl, ⟨_, SqL.of hg⟩, comp_seq (k := .l) (a := g) (xs := ys) (fun σ => ∃ v, σ = [v, some (.int sz)]) (fun j zs H2 => H2 = H1 /\ Paired (TupAt H1) zs (((allP ps).take j).filter fun p => decide ((p.length : Int) = sz))) ⟨_, rfl⟩ ⟨rfl, .nil⟩ (line300 (by lia)) (fun j zs H2 _ z => SqL.of (by rw [z.1]; exact hg)) ?_ ?_⟩
    · rintro j x zs σ H2 N hx ⟨u, rfl⟩ ⟨rfl, hz⟩ hN
      obtain ⟨p, ep, c, rfl, hc⟩ := Paired.at hy hx
      dsimp only [gName, List.set]
      refine ⟨_, rfl, c, _, rfl, .inr (SqT.of hc), _, rfl, rfl, _, rfl, ?_⟩
      rw [List.length_map, dec_int]
      have ef := filt_take (fun p => decide ((p.length : Int) = sz)) ep
      refine ite2 (fun z => ⟨_, rfl, ?_⟩) (fun z => ?_)
      · refine hN _ _ _ ⟨_, rfl⟩ ⟨rfl, ?_⟩ (by simp)
        rw [ef, if_pos z]
        exact L2.Paired.snoc hz ⟨c, rfl, hc⟩
      · refine hN _ _ _ ⟨_, rfl⟩ ⟨rfl, ?_⟩ (by lia)
        rw [ef, if_neg z, List.append_nil]
        exact hz
    · rintro zs H2 ⟨rfl, hz⟩ l hl
      rw [al, List.take_length] at hz
      have s2 := Same.new (o := HO.lst zs) hl
      have hl2 : (upd H2 l (.lst zs)) l = some (.lst zs) := upd_same
      have hz2 := tups_same hz s2
      have s12 := s1.trans s2
      generalize upd H2 l (.lst zs) = H3 at s2 hl2 hz2 s12 ⊢
      generalize hL : ((allP ps).filter fun p => decide ((p.length : Int) = sz)) = L at hz2
      have inL : ∀ p ∈ L, p ∈ allP ps := fun p hp => by rw [<- hL] at hp; exact (List.mem_filter.mp hp).1
      have zl : zs.length = L.length := Paired.length hz2
      have ll : L.length <= (allP ps).length := by rw [<- hL]; exact List.length_filter_le _ _
      refine ⟨_, rfl, l, rfl, ⟨_, SqL.of hl2⟩, comp_seq (k := .l) (a := l) (xs := zs) (fun σ => ∃ v, σ = [v, some (.int rn), some wv]) (fun j us H2 => Same H3 H2 /\ Paired (TupAt H2) us ((L.take j).filter fun p => decide (rkP n ps p = rn))) ⟨_, rfl⟩ ⟨Same.refl _, .nil⟩ (line300 (by lia)) (fun j us H2 _ z => SqL.of (z.1 _ _ hl2)) ?_ ?_⟩
      · rintro j x us σ H4 N hx ⟨u, rfl⟩ ⟨s4, hu⟩ hN
        obtain ⟨p, ep, c, rfl, hc⟩ := Paired.at hz2 hx
        have pin := inL p (List.mem_of_getElem? ep)
        dsimp only [gName, List.set]
        refine ⟨_, rfl, _, rfl, wv, c, n, ps, p, rfl, W.same (s12.trans s4), n1, n9, hb, SqT.of (s4 _ _ hc), allP_ks h8 pin, fun H5 s5 => ⟨_, rfl, rfl, _, rfl, ?_⟩⟩
        rw [dec_int]
        have ef := filt_take (fun p => decide (rkP n ps p = rn)) ep
        refine ite2 (fun z => ⟨_, rfl, ?_⟩) (fun z => ?_)
        · refine hN _ _ _ ⟨_, rfl⟩ ⟨s4.trans s5, ?_⟩ (by simp)
          rw [ef, if_pos (show decide (rkP n ps p = rn) = true from z)]
          exact L2.Paired.snoc (tups_same hu s5) ⟨c, rfl, s5 _ _ (s4 _ _ hc)⟩
        · refine hN _ _ _ ⟨_, rfl⟩ ⟨s4.trans s5, ?_⟩ (by lia)
          rw [ef, if_neg (show ¬ decide (rkP n ps p = rn) = true from z), List.append_nil]
          exact tups_same hu s5
      · rintro us H4 ⟨s4, hu⟩ r hr4
        rw [zl, List.take_length] at hu
        have s5 := Same.new (o := HO.lst us) hr4
        refine q r us _ ((s12.trans s4).trans s5) ?_ upd_same ?_
        · cases e : H r with
          | none => rfl
          | some o => exact absurd ((s12.trans s4) _ _ e) (by rw [hr4]; intro z; cases z)
        · have hw : withP n ps sz rn = L.filter fun p => decide (rkP n ps p = rn) := by unfold withP; rw [hL]
          rw [hw]
          exact tups_same hu s5
theorem scAT : FnScope ["web"] ["web"] (defScope sAT) := ⟨rfl, rfl, rfl, by decide +kernel, rfl, by decide +kernel, by decide +kernel⟩
theorem d_at_ (S : Src K mg "all_trees" sAT ["web"]) (DW : Def P w K mg base 3 "rank_of_web" ["web"] (spRankW K)) (DP : Def P w K mg base 3 "picks_with" ["web", "size", "rank"] (spPW K)) : Def P w K mg base 4 "all_trees" ["web"] (spAT K) := by
  refine S.def scAT (fun vs H Q E h => ?_) (fun f cdv A outer s H vs Q E hr h => ?_)
  · obtain ⟨_, _, _, rfl, _⟩ := h; rfl
  · obtain ⟨wv, n, ps, rfl, W, ok, q⟩ := h
    obtain ⟨⟨n1, n9⟩, hb, h8⟩ := ok
    have hr3 : Room 3 _ := hr.mono (by decide)
    refine ⟨_, pss_one (ps_ret (pe_def DP hr3 rfl (pa_cons (pv 0) (pa_cons (pe_def DW hr3 rfl (pa_cons (pv 0) pa_nil)) (pa_cons (pe_def DW hr3 rfl (pa_cons (pv 0) pa_nil)) pa_nil))))), ?_⟩
    refine ⟨_, rfl, _, rfl, wv, n, ps, rfl, W, n1, n9, hb, h8, fun H1 s1 => ⟨_, rfl, wv, n, ps, rfl, W.same s1, n1, n9, hb, h8, fun H2 s2 => ?_⟩⟩
    have s12 := s1.trans s2
    refine ⟨wv, n, _, _, ps, rfl, W.same s12, ⟨⟨n1, n9⟩, hb, h8⟩, fun g ys H3 s3 hgN hg hy => q g ys H3 (s12.trans s3) ?_ hg hy⟩
    cases e : H g with
    | none => rfl
    | some o => exact absurd (s12 _ _ e) (by rw [hgN]; intro z; cases z)
end
end My
namespace My
open PySem L2 PyProof.Rows
theorem at_mem {l : List Int} {i : Int} (h0 : 0 <= i) (h : i < l.length) : at0 l i ∈ l := getD_mem (by lia)
theorem at_map {l : List Int} {f : Int -> Int} {i : Int} (h0 : 0 <= i) (h : i < l.length) : at0 (l.map f) i = f (at0 l i) := getD_map (by lia)
theorem at_ups {n i : Int} (h0 : 0 <= i) (h : i < n) : at0 (ups n) i = i := by
  have : i.toNat < n.toNat := by lia
  unfold at0 ups
  simp [List.getD, this]
  lia
theorem mem_ups {n i : Int} : i ∈ ups n ↔ 0 <= i /\ i < n := by
  unfold ups
  rw [List.mem_map]
  constructor
  · rintro ⟨j, hj, rfl⟩
    have := List.mem_range.mp hj
    lia
  · rintro ⟨a, b⟩
    exact ⟨i.toNat, List.mem_range.mpr (by lia), by lia⟩
theorem ups_up (n : Int) : (ups n).Pairwise (· < ·) := by
  unfold ups
  rw [List.pairwise_map]
  exact List.pairwise_lt_range.imp fun h => by lia
theorem ups_snoc {j : Int} (h : 0 <= j) : ups (j + 1) = ups j ++ [j] := by
  unfold ups
  rw [show (j + 1).toNat = j.toNat + 1 by lia, List.range_succ, List.map_append]
  simp
  exact Int.max_eq_left h
structure GH (n : Int) (ps : List (Int × Int)) (ks hs : List Int) : Prop where
  len : (hs.length : Int) = n
  le : ∀ i, 0 <= i -> i < n -> 0 <= at0 hs i /\ at0 hs i <= i
  idem : ∀ i, 0 <= i -> i < n -> at0 hs (at0 hs i) = at0 hs i
  join : ∀ k ∈ ks, at0 hs (tieN ps k).1 = at0 hs (tieN ps k).2
  cl : ∀ F : Int -> Prop, (∀ k ∈ ks, (F (tieN ps k).1 ↔ F (tieN ps k).2)) -> ∀ i, 0 <= i -> i < n -> (F i ↔ F (at0 hs i))
theorem gh_start {n : Int} (h1 : 1 <= n) (ps : List (Int × Int)) : GH n ps [] (ups n) where
  len := by rw [ups_len]; lia
  le i a b := by rw [at_ups a b]; lia
  idem i a b := by rw [at_ups a b, at_ups a b]
  join k hk := nomatch hk
  cl F _ i a b := by rw [at_ups a b]
theorem gh_step {n : Int} {ps : List (Int × Int)} {ks hs : List Int} {k : Int} (G : GH n ps ks hs) (hall : ∀ k ∈ ks, InN n (tieN ps k)) (hp : InN n (tieN ps k)) : GH n ps (ks ++ [k]) (stepH hs (tieN ps k)) := by
  generalize hp' : tieN ps k = p at hp ⊢
  obtain ⟨a1, a2, b1, b2⟩ := id hp
  have ln := G.len
  by_cases he : at0 hs p.1 = at0 hs p.2
  · rw [stepH_same he]
    refine ⟨G.len, G.le, G.idem, fun j hj => ?_, fun F hF i h0 hi => G.cl F (fun j hj => hF j (List.mem_append_left _ hj)) i h0 hi⟩
    rcases List.mem_append.mp hj with z | z
    · exact G.join j z
    · rw [List.mem_singleton.mp z, hp']; exact he
  · obtain ⟨low, high, lh, es, fl, fh, lp, lle, dom⟩ : ∃ low high, low < high /\ stepH hs p = hs.map (fun x => if x = high then low else x) /\ at0 hs low = low /\ at0 hs high = high /\ 0 <= low /\ high < n /\ ((at0 hs p.1 = low /\ at0 hs p.2 = high) \/ (at0 hs p.1 = high /\ at0 hs p.2 = low)) := by
      have la := G.le p.1 a1 a2
      have lb := G.le p.2 b1 b2
      have ia := G.idem p.1 a1 a2
      have ib := G.idem p.2 b1 b2
      by_cases hlt : at0 hs p.2 < at0 hs p.1
      · refine ⟨at0 hs p.2, at0 hs p.1, hlt, ?_, ib, ia, lb.1, by lia, .inr ⟨rfl, rfl⟩⟩
        unfold stepH
        rw [if_neg (by lia), if_pos hlt]
      · refine ⟨at0 hs p.1, at0 hs p.2, by lia, ?_, ia, ib, la.1, by lia, .inl ⟨rfl, rfl⟩⟩
        unfold stepH
        rw [if_pos (by lia), if_neg hlt]
    rw [es]
    have am : ∀ i, 0 <= i -> i < n -> at0 (hs.map fun x => if x = high then low else x) i = if at0 hs i = high then low else at0 hs i := fun i h0 hi => at_map h0 (by lia)
    refine ⟨by rw [List.length_map]; exact ln, fun i h0 hi => ?_, fun i h0 hi => ?_, fun j hj => ?_, fun F hF i h0 hi => ?_⟩
    · rw [am i h0 hi]
      have := G.le i h0 hi
      split <;> lia
    · rw [am i h0 hi]
      have l1 := G.le i h0 hi
      by_cases c : at0 hs i = high
      · rw [if_pos c, am low lp (by lia), fl, if_neg (by lia)]
      · rw [if_neg c, am (at0 hs i) l1.1 (by lia), G.idem i h0 hi, if_neg c]
    · have inj : InN n (tieN ps j) := by
        rcases List.mem_append.mp hj with z | z
        · exact hall j z
        · rw [List.mem_singleton.mp z, hp']; exact hp
      obtain ⟨c1, c2, c3, c4⟩ := inj
      rw [am _ c1 c2, am _ c3 c4]
      rcases List.mem_append.mp hj with z | z
      · rw [G.join j z]
      · rw [List.mem_singleton.mp z, hp']
        rcases dom with ⟨d1, d2⟩ | ⟨d1, d2⟩ <;> rw [d1, d2] <;> simp
    · have old := G.cl F (fun j hj => hF j (List.mem_append_left _ hj))
      have fp : F p.1 ↔ F p.2 := by have := hF k (by simp); rw [hp'] at this; exact this
      rw [am i h0 hi, old i h0 hi]
      by_cases c : at0 hs i = high
      · rw [if_pos c, c]
        have o1 := old p.1 a1 a2
        have o2 := old p.2 b1 b2
        rcases dom with ⟨d1, d2⟩ | ⟨d1, d2⟩
        · rw [d1] at o1; rw [d2] at o2
          exact o2.symm.trans (fp.symm.trans o1)
        · rw [d1] at o1; rw [d2] at o2
          exact o1.symm.trans (fp.trans o2)
      · rw [if_neg c]
theorem gh_go {n : Int} {ps : List (Int × Int)} : ∀ (ks done hs : List Int), (∀ k ∈ done ++ ks, InN n (tieN ps k)) -> GH n ps done hs -> GH n ps (done ++ ks) (hdF ps hs ks)
  | [], done, hs, _, G => by rw [List.append_nil]; exact G
  | k :: ks, done, hs, h, G => by
    have := gh_go ks (done ++ [k]) (stepH hs (tieN ps k)) (by rw [List.append_assoc]; exact h) (gh_step G (fun j hj => h j (List.mem_append_left _ hj)) (h k (by simp)))
    rw [List.append_assoc] at this
    exact this
theorem gh_run {n : Int} {ps : List (Int × Int)} {ks : List Int} (h1 : 1 <= n) (hb : ∀ p ∈ ps, InN n p) (hk : Ks ps.length ks) : GH n ps ks (hdF ps (ups n) ks) :=
  gh_go ks [] (ups n) (fun k h => tieN_in hb (hk k h).1 (hk k h).2) (gh_start h1 ps)
def under (n : Int) (hs : List Int) (h : Int) : List Int := (ups n).filter fun i => decide (at0 hs i = h)
def hpts (n : Int) (hs : List Int) : List Int := (ups n).filter fun i => decide (at0 hs i = i)
def parts (n : Int) (hs : List Int) : List (List Int) := (hpts n hs).map (under n hs)
theorem perm_up {l m : List Int} (p : l.Perm m) (h1 : l.Pairwise (· <= ·)) (h2 : m.Pairwise (· <= ·)) : l = m := List.Perm.eq_of_pairwise (fun a b _ _ h1 h2 => by lia) h1 h2 p
theorem same_perm {l m : List Int} (h1 : l.Nodup) (h2 : m.Nodup) (h : ∀ i, i ∈ l ↔ i ∈ m) : l.Perm m := (List.perm_ext_iff_of_nodup h1 h2).mpr h
theorem nd_len {n : Int} {l : List Int} (h0 : 0 <= n) (nd : l.Nodup) (h : ∀ i ∈ l, 0 <= i /\ i < n) : (l.length : Int) <= n := by
  have p : l.Perm ((ups n).filter fun i => decide (i ∈ l)) := same_perm nd (((ups_up n).filter _).imp fun h => by lia) fun i => by
    rw [List.mem_filter, mem_ups, decide_eq_true_iff]
    exact ⟨fun z => ⟨h i z, z⟩, fun z => z.2⟩
  have := p.length_eq
  have := List.length_filter_le (fun i => decide (i ∈ l)) (ups n)
  rw [ups_len] at this
  lia
end My
namespace My
open PySem L2 PyProof.Rows
def cN (n : Int) (ps : List (Int × Int)) (ks : List Int) : Int := (dcount (hdF ps (ups n) ks) : Nat)
theorem stepH_norm (hs : List Int) (p : Int × Int) : stepH hs (norm p) = stepH hs p := by
  rcases norm_cases p with ⟨e1, e2⟩ | ⟨e1, e2⟩
  · unfold stepH; rw [e1, e2]
  · unfold stepH
    rw [e1, e2]
    have h1 : (if at0 hs p.1 > at0 hs p.2 then at0 hs p.1 else at0 hs p.2) = if at0 hs p.2 > at0 hs p.1 then at0 hs p.2 else at0 hs p.1 := by split <;> split <;> lia
    have h2 : (if at0 hs p.1 < at0 hs p.2 then at0 hs p.1 else at0 hs p.2) = if at0 hs p.2 < at0 hs p.1 then at0 hs p.2 else at0 hs p.1 := by split <;> split <;> lia
    rw [h1, h2]
theorem hdF_norm {ps : List (Int × Int)} : ∀ (ks hs : List Int), Ks ps.length ks -> hdF (ps.map norm) hs ks = hdF ps hs ks
  | [], _, _ => rfl
  | k :: ks, hs, h => by
    show hdF (ps.map norm) (stepH hs (tieN (ps.map norm) k)) ks = hdF ps (stepH hs (tieN ps k)) ks
    obtain ⟨k0, kl⟩ := h k List.mem_cons_self
    rw [tieN_norm k0 kl, stepH_norm, hdF_norm ks _ fun j hj => h j (List.mem_cons_of_mem _ hj)]
theorem gh_mono {n : Int} {ps : List (Int × Int)} {ks ks' hs hs' : List Int} (G : GH n ps ks hs) (G' : GH n ps ks' hs') (sub : ∀ k ∈ ks, k ∈ ks') {i j : Int} (i0 : 0 <= i) (i1 : i < n) (j0 : 0 <= j) (j1 : j < n) (e : at0 hs i = at0 hs j) : at0 hs' i = at0 hs' j := by
  have c := G.cl (fun x => at0 hs' i = at0 hs' x) fun k hk => by rw [G'.join k (sub k hk)]
  have c1 := c i i0 i1
  rw [e] at c1
  exact (c j j0 j1).mpr (c1.mp rfl)
theorem gh_le {n : Int} {ps : List (Int × Int)} {ks ks' hs hs' : List Int} (G : GH n ps ks hs) (G' : GH n ps ks' hs') (sub : ∀ k ∈ ks, k ∈ ks') {i : Int} (i0 : 0 <= i) (i1 : i < n) : at0 hs' i <= at0 hs i := by
  have l := G.le i i0 i1
  have m := gh_mono G G' sub l.1 (by lia) i0 i1 (G.idem i i0 i1)
  have l2 := G'.le (at0 hs i) l.1 (by lia)
  lia
theorem gh_same {n : Int} {ps : List (Int × Int)} {ks ks' hs hs' : List Int} (G : GH n ps ks hs) (G' : GH n ps ks' hs') (h : ∀ k, k ∈ ks ↔ k ∈ ks') : hs = hs' := by
  have l1 := G.len
  have l2 := G'.len
  apply List.ext_getElem (by lia)
  intro i h1 h2
  have a := gh_le G G' (fun k hk => (h k).mp hk) (i := i) (by lia) (by lia)
  have b := gh_le G' G (fun k hk => (h k).mpr hk) (i := i) (by lia) (by lia)
  have e1 : at0 hs i = hs[i] := by unfold at0; rw [Int.toNat_natCast]; simp [List.getD, h1]
  have e2 : at0 hs' i = hs'[i] := by unfold at0; rw [Int.toNat_natCast]; simp [List.getD, h2]
  lia
section
variable {n : Int} {ps : List (Int × Int)}
theorem c_same (n1 : 1 <= n) (hb : ∀ p ∈ ps, InN n p) {ks ks' : List Int} (h1 : Ks ps.length ks) (h2 : Ks ps.length ks') (h : ∀ k, k ∈ ks ↔ k ∈ ks') : cN n ps ks = cN n ps ks' := by
  unfold cN
  rw [gh_same (gh_run n1 hb h1) (gh_run n1 hb h2) h]
theorem c_snoc (n1 : 1 <= n) (hb : ∀ p ∈ ps, InN n p) {ks : List Int} {k : Int} (h1 : Ks ps.length ks) (k0 : 0 <= k) (kl : k < ps.length) :
    cN n ps (ks ++ [k]) = cN n ps ks - if at0 (hdF ps (ups n) ks) (tieN ps k).1 = at0 (hdF ps (ups n) ks) (tieN ps k).2 then 0 else 1 := by
  have G := gh_run n1 hb h1
  obtain ⟨a1, a2, b1, b2⟩ := tieN_in hb k0 kl
  unfold cN
  rw [hdF_snoc]
  generalize hdF ps (ups n) ks = hs at G ⊢
  have ln := G.len
  by_cases e : at0 hs (tieN ps k).1 = at0 hs (tieN ps k).2
  · rw [stepH_same e, if_pos e]; lia
  · obtain ⟨u, v, huv, e1, hu⟩ := stepH_ne e
    have m1 : at0 hs (tieN ps k).1 ∈ hs := at_mem a1 (by lia)
    have m2 : at0 hs (tieN ps k).2 ∈ hs := at_mem b1 (by lia)
    have mu : u ∈ hs := by rcases hu with ⟨z, _⟩ | ⟨z, _⟩ <;> rw [z] <;> assumption
    have mv : v ∈ hs := by rcases hu with ⟨_, z⟩ | ⟨_, z⟩ <;> rw [z] <;> assumption
    have := dcount_merge huv mu mv
    rw [e1, if_neg e]
    lia
theorem ks_app {m : Nat} {X Y : List Int} (h1 : Ks m X) (h2 : Ks m Y) : Ks m (X ++ Y) := fun k hk => by
  rcases List.mem_append.mp hk with z | z
  · exact h1 k z
  · exact h2 k z
theorem c_sub (n1 : 1 <= n) (hb : ∀ p ∈ ps, InN n p) : ∀ (D X Y : List Int), Ks ps.length D -> Ks ps.length X -> Ks ps.length Y -> (∀ k ∈ X, k ∈ Y) -> cN n ps Y - cN n ps (Y ++ D) <= cN n ps X - cN n ps (X ++ D)
  | [], X, Y, _, _, _, _ => by simp
  | d :: D, X, Y, hD, hX, hY, sub => by
    obtain ⟨d0, dl⟩ := hD d List.mem_cons_self
    have hd1 : Ks ps.length [d] := fun k hk => by rw [List.mem_singleton.mp hk]; exact ⟨d0, dl⟩
    have ih := c_sub n1 hb D (X ++ [d]) (Y ++ [d]) (fun k hk => hD k (List.mem_cons_of_mem _ hk)) (ks_app hX hd1) (ks_app hY hd1) fun k hk => by
      rcases List.mem_append.mp hk with z | z
      · exact List.mem_append_left _ (sub k z)
      · exact List.mem_append_right _ z
    rw [List.append_assoc, List.append_assoc] at ih
    have cx := c_snoc n1 hb hX d0 dl
    have cy := c_snoc n1 hb hY d0 dl
    obtain ⟨a1, a2, b1, b2⟩ := tieN_in hb d0 dl
    have mono := gh_mono (gh_run n1 hb hX) (gh_run n1 hb hY) sub a1 a2 b1 b2
    have key : cN n ps Y - cN n ps (Y ++ [d]) <= cN n ps X - cN n ps (X ++ [d]) := by
      rw [cx, cy]
      by_cases e : at0 (hdF ps (ups n) X) (tieN ps d).1 = at0 (hdF ps (ups n) X) (tieN ps d).2
      · rw [if_pos e, if_pos (mono e)]; lia
      · rw [if_neg e]; split <;> lia
    show cN n ps Y - cN n ps (Y ++ ([d] ++ D)) <= cN n ps X - cN n ps (X ++ ([d] ++ D))
    lia
theorem c_app (n1 : 1 <= n) (hb : ∀ p ∈ ps, InN n p) : ∀ (D X : List Int), Ks ps.length D -> Ks ps.length X -> 0 <= cN n ps X - cN n ps (X ++ D) /\ cN n ps X - cN n ps (X ++ D) <= D.length
  | [], X, _, _ => by simp
  | d :: D, X, hD, hX => by
    obtain ⟨d0, dl⟩ := hD d List.mem_cons_self
    have hd1 : Ks ps.length [d] := fun k hk => by rw [List.mem_singleton.mp hk]; exact ⟨d0, dl⟩
    have ih := c_app n1 hb D (X ++ [d]) (fun k hk => hD k (List.mem_cons_of_mem _ hk)) (ks_app hX hd1)
    rw [List.append_assoc] at ih
    have cx := c_snoc n1 hb hX d0 dl
    show 0 <= cN n ps X - cN n ps (X ++ ([d] ++ D)) /\ cN n ps X - cN n ps (X ++ ([d] ++ D)) <= ((D.length + 1 : Nat) : Int)
    split at cx <;> lia
theorem c_nil (n1 : 1 <= n) (n9 : n <= 9) : cN n ps [] = n := ups_dc n1 n9
theorem c_within (n1 : 1 <= n) (n9 : n <= 9) (hb : ∀ p ∈ ps, InN n p) {A : List Int} (hA : Ks ps.length A) : 0 <= n - cN n ps A /\ n - cN n ps A <= A.length := by
  have := c_app n1 hb A [] hA (fun _ z => nomatch z)
  rw [List.nil_append, c_nil n1 n9] at this
  exact this
end
def mvP (n t : Int) (p : Int × Int) : Int × Int := ((p.1 + t) % n, (p.2 + t) % n)
def mv (n t : Int) (ps : List (Int × Int)) : List (Int × Int) := ps.reverse.map (mvP n t)
def tn (ps : List (Int × Int)) (k : Int) : Int := (ps.length : Int) - 1 - k
def bitI (b k : Int) : Bool := decide (Builtin.bitAnd (b / 2 ^ k.toNat) 1 = 1)
def pkB (b : Int) (m : Nat) : List Int := (ups m).filter (bitI b)
theorem bitI_test {b k : Int} (h : 0 <= b) : bitI b k = b.toNat.testBit k.toNat := by
  obtain ⟨x, rfl⟩ := Int.eq_ofNat_of_zero_le h
  unfold bitI
  have e : ((x : Int) / 2 ^ k.toNat) = ((x / 2 ^ k.toNat : Nat) : Int) := by rw [Int.natCast_ediv, Int.natCast_pow]; rfl
  rw [e, bitAnd_pp (Int.natCast_nonneg _) (by decide), Int.toNat_natCast, Int.toNat_natCast, Nat.testBit_eq_decide_div_mod_eq]
  show decide (((x / 2 ^ k.toNat &&& 1 : Nat) : Int) = 1) = _
  rw [Nat.and_one_is_mod, decide_eq_decide]
  lia
theorem mem_pkB {b k : Int} {m : Nat} : k ∈ pkB b m ↔ (0 <= k /\ k < m) /\ bitI b k = true := by unfold pkB; rw [List.mem_filter, mem_ups]
theorem pkB_ks (b : Int) (m : Nat) : Ks m (pkB b m) := fun k h => (mem_pkB.mp h).1
end My
namespace My
open PySem L2
def allB : Nat -> List (List Bool)
  | 0 => [[]]
  | m + 1 => (allB m).flatMap fun l => [true :: l, false :: l]
theorem allB_mem : ∀ {m : Nat} {bs : List Bool}, bs.length = m -> bs ∈ allB m
  | 0, [], _ => List.mem_singleton.mpr rfl
  | 0, _ :: _, h => nomatch h
  | m + 1, [], h => nomatch h
  | m + 1, b :: bs, h => by
    refine List.mem_flatMap.mpr ⟨bs, allB_mem (by simpa using h), ?_⟩
    cases b <;> simp
def pkL (m : Nat) (bs : List Bool) : List Int := (((ups m).zip bs).filter (·.2)).map (·.1)
def pkN (m b : Nat) : List Int := (((List.range m).filter fun k => b.testBit k).map fun (k : Nat) => (k : Int))
def pw : List (List Int) -> Bool
  | [] => true
  | p :: l => l.all (fun q => !HT.lexLt q p) && pw l
theorem pw_of : ∀ {l : List (List Int)}, pw l = true -> l.Pairwise LexLe
  | [], _ => .nil
  | p :: l, h => by
    have e : pw (p :: l) = (l.all (fun q => !HT.lexLt q p) && pw l) := rfl
    rw [e, Bool.and_eq_true, List.all_eq_true] at h
    exact .cons (fun q hq => by have := h.1 q hq; simpa [LexLe] using this) (pw_of h.2)
def ndB : List (List Int) -> Bool
  | [] => true
  | p :: l => !l.contains p && ndB l
theorem ndB_of : ∀ {l : List (List Int)}, ndB l = true -> l.Nodup
  | [], _ => .nil
  | p :: l, h => by
    have e : ndB (p :: l) = (!l.contains p && ndB l) := rfl
    rw [e, Bool.and_eq_true] at h
    exact List.nodup_cons.mpr ⟨by simpa using h.1, ndB_of h.2⟩
def chkM (m : Nat) : Bool :=
  ((List.range (2 ^ m)).map (pkN m)).isPerm (upto m (m + 1)) && ((allB m).all fun bs => (upto m (m + 1)).contains (pkL m bs)) && (List.range (m + 1)).all (fun r => pw ((upto m (m + 1)).filter fun p => decide (p.length = r))) && ndB (upto m (m + 1))
theorem chkM_all : ∀ m ∈ ([0, 1, 2, 3, 4, 5, 6, 7, 8] : List Nat), chkM m = true := by decide +kernel
structure PkOk (m : Nat) : Prop where
  perm : ((List.range (2 ^ m)).map (pkN m)).Perm (upto m (m + 1))
  all : ∀ bs : List Bool, bs.length = m -> pkL m bs ∈ upto m (m + 1)
  nd : (upto m (m + 1)).Nodup
  up : ∀ r, r <= m -> ((upto m (m + 1)).filter fun p => decide (p.length = r)).Pairwise LexLe
theorem pk_ok {m : Nat} (h : m <= 8) : PkOk m := by
  have c : chkM m = true := chkM_all m (by
    have : m = 0 \/ m = 1 \/ m = 2 \/ m = 3 \/ m = 4 \/ m = 5 \/ m = 6 \/ m = 7 \/ m = 8 := by lia
    rcases this with rfl | rfl | rfl | rfl | rfl | rfl | rfl | rfl | rfl <;> decide)
  unfold chkM at c
  rw [Bool.and_eq_true, Bool.and_eq_true, Bool.and_eq_true, List.all_eq_true, List.all_eq_true] at c
  obtain ⟨⟨⟨c1, c2⟩, c3⟩, c4⟩ := c
  refine ⟨List.isPerm_iff.mp c1, fun bs hb => ?_, ndB_of c4, fun r hr => pw_of (c3 r (List.mem_range.mpr (by lia)))⟩
  have := c2 bs (allB_mem hb)
  simpa using this
theorem filt_zip (q : Int -> Bool) : ∀ l : List Int, l.filter q = ((l.zip (l.map q)).filter (·.2)).map (·.1)
  | [] => rfl
  | x :: l => by
    rw [List.map_cons, List.zip_cons_cons]
    cases h : q x
    · rw [List.filter_cons_of_neg (by simp [h]), List.filter_cons_of_neg (by simp), filt_zip q l]
    · rw [List.filter_cons_of_pos h, List.filter_cons_of_pos (by simp), List.map_cons, filt_zip q l]
theorem up_eq : ∀ {a b : List Int}, a.Pairwise (· < ·) -> b.Pairwise (· < ·) -> (∀ i, i ∈ a ↔ i ∈ b) -> a = b := fun {a b} h1 h2 h =>
  perm_up (same_perm (h1.imp fun z => by lia) (h2.imp fun z => by lia) h) (h1.imp fun z => by lia) (h2.imp fun z => by lia)
theorem rise_mem {m : Nat} {ks : List Int} (h8 : m <= 8) (hk : Ks m ks) (up : ks.Pairwise (· < ·)) : ks ∈ upto m (m + 1) := by
  have e : ks = (ups m).filter fun i => decide (i ∈ ks) := up_eq up ((ups_up m).filter _) fun i => by
    rw [List.mem_filter, mem_ups, decide_eq_true_iff]
    exact ⟨fun z => ⟨hk i z, z⟩, fun z => z.2⟩
  rw [e, filt_zip]
  exact (pk_ok h8).all _ (by rw [List.length_map, ups_len]; simp)
theorem pkB_pkN {b m : Nat} : pkB (b : Int) m = pkN m b := by
  unfold pkB pkN ups
  rw [Int.toNat_natCast, List.filter_map]
  congr 1
  apply List.filter_congr
  intro k _
  show bitI (b : Int) (k : Int) = _
  rw [bitI_test (by lia), Int.toNat_natCast, Int.toNat_natCast]
theorem lex_anti : ∀ {a b : List Int}, HT.lexLt b a = false -> HT.lexLt a b = false -> a = b
  | [], [], _, _ => rfl
  | [], _ :: _, _, h => by cases h
  | _ :: _, [], h, _ => by cases h
  | x :: xs, y :: ys, h1, h2 => by
    rw [HT.lexLt_cons] at h1 h2
    by_cases e : x = y
    · rw [if_pos e.symm] at h1
      rw [if_pos e] at h2
      rw [e, lex_anti h1 h2]
    · rw [if_neg (Ne.symm e)] at h1
      rw [if_neg e] at h2
      have := of_decide_eq_false h1
      have := of_decide_eq_false h2
      lia
theorem lex_eq {l m : List (List Int)} (p : l.Perm m) (h1 : l.Pairwise LexLe) (h2 : m.Pairwise LexLe) : l = m := List.Perm.eq_of_pairwise (fun _ _ _ _ z1 z2 => lex_anti z1 z2) h1 h2 p
theorem rise_at : ∀ {p : List Int}, rising p = true -> p.Pairwise (· < ·)
  | [], _ => .nil
  | [x], _ => List.pairwise_singleton _ _
  | x :: y :: r, h => by
    have e : rising (x :: y :: r) = (decide (x < y) && rising (y :: r)) := rfl
    rw [e, Bool.and_eq_true, decide_eq_true_iff] at h
    have ih := rise_at h.2
    refine .cons (fun z hz => ?_) ih
    rcases List.mem_cons.mp hz with e | hz
    · rw [e]; exact h.1
    · have := (List.pairwise_cons.mp ih).1 z hz
      lia
section
variable {n : Int} {ps : List (Int × Int)}
theorem rkP_c (ks : List Int) : rkP n ps ks = n - cN n ps ks := rfl
theorem rkP_rk (n1 : 1 <= n) (n9 : n <= 9) (hb : ∀ p ∈ ps, InN n p) {ks : List Int} (hk : Ks ps.length ks) : rkP n ps ks = rk n ps ks := by
  rw [<- rank_eq n1 n9 hb hk, hdF_norm ks _ hk]
  rfl
theorem allP_rise (h8 : ps.length <= 8) {p : List Int} : p ∈ allP ps ↔ Ks ps.length p /\ p.Pairwise (· < ·) := ⟨fun h => ⟨allP_ks h8 h, rise_at (okPick_in (allP_in h8 h)).2.1⟩, fun h => rise_mem h8 h.1 h.2⟩
theorem allP_nd (h8 : ps.length <= 8) : (upto ps.length (ps.length + 1)).Nodup := (pk_ok h8).nd
theorem isTr_mem (h8 : ps.length <= 8) {ks : List Int} (hk : Ks ps.length ks) (up : ks.Pairwise (· < ·)) : isTr n ps ks = decide (ks ∈ treesP n ps) := by
  unfold isTr treesP withP
  rw [Bool.eq_iff_iff, Bool.and_eq_true, decide_eq_true_iff, decide_eq_true_iff, decide_eq_true_iff, List.mem_filter, List.mem_filter, decide_eq_true_iff, decide_eq_true_iff]
  exact ⟨fun z => ⟨⟨rise_mem h8 hk up, z.1⟩, z.2⟩, fun z => ⟨z.1.2, z.2⟩⟩
theorem trees_all {p : List Int} (h : p ∈ treesP n ps) : p ∈ allP ps := (List.mem_filter.mp (List.mem_filter.mp h).1).1
theorem trees_up (n1 : 1 <= n) (n9 : n <= 9) (hb : ∀ p ∈ ps, InN n p) (h8 : ps.length <= 8) : (treesP n ps).Pairwise LexLe := by
  have w := c_within n1 n9 hb (ups_ks ps.length)
  rw [ups_len] at w
  have r0 : 0 <= rkAll n ps := by unfold rkAll; rw [rkP_c]; exact w.1
  have r1 : rkAll n ps <= ps.length := by unfold rkAll; rw [rkP_c]; simp at w; lia
  have u := (pk_ok h8).up (rkAll n ps).toNat (by lia)
  unfold treesP withP
  refine List.Pairwise.filter _ ?_
  have e : ((allP ps).filter fun p => decide ((p.length : Int) = rkAll n ps)) = ((upto ps.length (ps.length + 1)).filter fun p => decide (p.length = (rkAll n ps).toNat)) := by
    unfold allP
    apply List.filter_congr
    intro p _
    rw [decide_eq_decide]
    lia
  rw [e]
  exact u
theorem trees_law (n1 : 1 <= n) (n9 : n <= 9) (hb : ∀ p ∈ ps, InN n p) (h8 : ps.length <= 8) {kss : List (List Int)} (hp : kss.Perm (((List.range (2 ^ ps.length)).map fun b : Nat => pkB (b : Int) ps.length).filter fun p => decide ((p.length : Int) = rk n ps (ups ps.length)) && decide (rk n ps p = rk n ps (ups ps.length)))) (hs : kss.Pairwise LexLe) : kss = treesP n ps := by
  refine lex_eq (hp.trans ?_) hs (trees_up n1 n9 hb h8)
  have e1 : ((List.range (2 ^ ps.length)).map fun b : Nat => pkB (b : Int) ps.length) = (List.range (2 ^ ps.length)).map (pkN ps.length) := List.map_congr_left fun b _ => pkB_pkN
  rw [e1]
  refine ((pk_ok h8).perm.filter _).trans ?_
  unfold treesP withP rkAll
  rw [List.filter_filter]
  have : (upto ps.length (ps.length + 1)).filter (fun p => decide ((p.length : Int) = rk n ps (ups ps.length)) && decide (rk n ps p = rk n ps (ups ps.length))) = (allP ps).filter (fun p => decide (rkP n ps p = rkP n ps (ups ps.length)) && decide ((p.length : Int) = rkP n ps (ups ps.length))) := by
    apply List.filter_congr
    intro p hp
    rw [rkP_rk n1 n9 hb (ups_ks _), rkP_rk n1 n9 hb (allP_ks h8 hp), Bool.and_comm]
  rw [this]
end
def spAt (K : W.Frag) : Sp := fun vs H Q _ => ∃ (a : Addr) (ns : List Int) (k : Nat), vs = [.ref a, .int k] /\ SqL K H a (ns.map V.int) /\ Q (.int (ns.getD k 0)) H
def spWeb5 (K : W.Frag) : Sp := fun vs H Q _ => ∃ (a : Addr) (ns : List Int), vs = [.ref a, .int 5] /\ SqL K H a (ns.map V.int) /\ ∀ wv n ps H', Same H H' -> WebAt H' wv n ps -> WebOk n ps -> (∀ p ∈ ps, p.1 <= p.2) -> Q wv H'
theorem cut_to (ns : List Int) (m : Int) (h0 : 0 <= m) (h8 : m <= 8) : ∃ ms : List Int, cutV (ns.map V.int) (some 1) (some (1 + m)) = ms.map V.int /\ ms.length <= 8 := by
  obtain ⟨j, rfl⟩ := Int.eq_ofNat_of_zero_le h0
  refine ⟨(ns.drop (HT.sIx (ns.map V.int).length 0 (some ((1 : Nat) : Int)))).take (HT.sIx (ns.map V.int).length (ns.map V.int).length (some ((1 + j : Nat) : Int)) - HT.sIx (ns.map V.int).length 0 (some ((1 : Nat) : Int))), ?_, ?_⟩
  · rw [show (1 + (j : Int)) = ((1 + j : Nat) : Int) by omega, show (some (1 : Int)) = some ((1 : Nat) : Int) from rfl]
    unfold cutV
    rw [List.map_take, List.map_drop]
  · rw [List.length_take, HT.sIx_nat, HT.sIx_nat]
    omega
theorem ties_put {H : Hp} {l : Addr} {ys zs : List V} {xs : List V} {ps : List (Int × Int)} (h : Paired (TieAt H) xs ps) (hl : H l = some (.lst ys)) : Paired (TieAt (upd H l (.lst zs))) xs ps := L2.Paired.mapP h fun _ _ ⟨a, h1, h2⟩ => ⟨a, h1, by
  rw [upd_ne (ne_of h2 hl (fun z => nomatch z))]
  exact h2⟩
theorem same_put {H H2 : Hp} {p : Addr} {o : HO} (s : Same H H2) (h : H p = none) : Same H (upd H2 p o) := fun b u e => by rw [upd_ne (ne_of_none e h)]; exact s b u e
theorem get_int' {ks : List Int} {i : Nat} {x : V} (hx : (ks.map V.int)[i]? = some x) : ∃ k, ks[i]? = some k /\ V.int k = x := by
  rw [List.getElem?_map] at hx
  cases e : ks[i]? with
  | none => rw [e] at hx; simp at hx
  | some k => rw [e] at hx; simp at hx; exact ⟨k, rfl, hx⟩
theorem last_tie {H : Hp} {xs : List V} {ps : List (Int × Int)} (h : Paired (TieAt H) xs ps) (ne : xs ≠ []) : ∃ c p, atI xs (-1) = some (.ref c) /\ H c = some (.tup [.int p.1, .int p.2]) /\ p ∈ ps := by
  obtain ⟨ini, z, ez⟩ : ∃ ini z, xs = ini ++ [z] := ⟨xs.dropLast, xs.getLast ne, (List.dropLast_concat_getLast ne).symm⟩
  have g : xs[ini.length]? = some z := by rw [ez]; simp
  obtain ⟨p, ep, c, rfl, hc⟩ := Paired.at h g
  refine ⟨c, p, ?_, hc, List.mem_of_getElem? ep⟩
  rw [ez]
  exact atI_last _ _
section
variable {P : Program} {w : World} {K : W.Frag} {mg : Str -> Option Value} {base : Heap}
theorem scAt : FnScope ["_law_script", "_law_k"] ["_law_script", "_law_k"] (defScope sAt) := ⟨rfl, rfl, rfl, by decide +kernel, rfl, by decide +kernel, by decide +kernel⟩
theorem d_at (T : Txt K mg) (S : Src K mg "_law_at" sAt ["_law_script", "_law_k"]) : Def P w K mg base 1 "_law_at" ["_law_script", "_law_k"] (spAt K) := by
  refine S.def scAt (fun vs H Q E h => ?_) (fun f cdv A outer s H vs Q E hr h => ?_)
  · obtain ⟨_, _, _, rfl, _⟩ := h; rfl
  · obtain ⟨a, ns, k, rfl, hq, q⟩ := h
    refine ⟨_, pss_cons (ps_if (pt_cmpR op_lt (pv 1) (pe_callB (call_lenK K) (by rfl) T.len PySem.boot_len (pa_cons (pv 0) pa_nil)) (nomark _)) (pss_one (ps_ret (pe_ix (ix_listK K) (pv 0) (pv 1) (fun _ _ => rfl)))) pss_nil) (pss_one (ps_ret pe_int)), ?_⟩
    refine ⟨_, rfl, _, rfl, a, _, rfl, .inl hq, _, _, rfl, rfl, _, rfl, ?_⟩
    rw [List.length_map]
    by_cases h : k < ns.length
    · rw [decide_eq_true (show (k : Int) < (ns.length : Int) by omega)]
      refine iteT ⟨_, rfl, _, rfl, a, _, _, .int (ns.getD k 0), rfl, rfl, hq, atI_nat ?_, q⟩
      rw [List.getElem?_map, List.getD_eq_getElem?_getD]
      simp [h]
    · rw [decide_eq_false (show ¬ (k : Int) < (ns.length : Int) by omega)]
      refine iteF ?_
      rw [List.getD_eq_getElem?_getD, List.getElem?_eq_none (by omega)] at q
      exact q
theorem scWeb : FnScope ["_law_script", "_law_few", "_law_head", "_law_points", "_law_most", "_law_ties", "_law_cell", "_law_a", "_law_b"] ["_law_script", "_law_few"] (defScope sWeb) := ⟨rfl, rfl, rfl, by decide +kernel, rfl, by decide +kernel, by decide +kernel⟩
theorem d_web (T : Txt K mg) (S : Src K mg "_law_web" sWeb ["_law_script", "_law_few"]) (DA : Def P w K mg base 1 "_law_at" ["_law_script", "_law_k"] (spAt K)) : Def P w K mg base 2 "_law_web" ["_law_script", "_law_few"] (spWeb5 K) := by
  refine S.def scWeb (fun vs H Q E h => ?_) (fun f cdv A outer s H vs Q E hr h => ?_)
  · obtain ⟨_, _, rfl, _⟩ := h; rfl
  · obtain ⟨a, ns, rfl, hq, q⟩ := h
    have hr1 : Room 1 _ := hr.mono (by decide)
    refine ⟨_, pss_cons (ps_set (i := 2) scWeb.nd rfl (Or.inl rfl) (pe_def DA hr1 rfl (pa_cons (pv 0) (pa_cons pe_int pa_nil))))
      (pss_cons (ps_set (i := 3) scWeb.nd rfl (Or.inl rfl) (pe_op op_add pe_int (pe_op op_mod (pv 2) pe_int)))
      (pss_cons (ps_if (pt_cmpR op_eq (pe_op op_mod (pe_op op_fdiv (pv 2) pe_int) pe_int) pe_int (nomark _)) (pss_one (ps_set (i := 3) scWeb.nd rfl (Or.inl rfl) (pe_op op_add pe_int (pe_op op_mod (pe_op op_fdiv (pv 2) pe_int) pe_int)))) pss_nil)
      (pss_cons (ps_set (i := 4) scWeb.nd rfl (Or.inl rfl) (pv 1))
      (pss_cons (ps_if (pt_cmpR op_eq (pe_op op_mod (pe_op op_fdiv (pv 2) pe_int) pe_int) pe_int (nomark _)) (pss_one (ps_set (i := 4) scWeb.nd rfl (Or.inl rfl) pe_int)) pss_nil)
      (pss_cons (ps_set (i := 5) scWeb.nd rfl (Or.inl rfl) (pe_lst pa_nil))
      (pss_cons (ps_for PassesOwn.never rfl (pi_seqK K .l (pe_slice (sl_listK K) (pv 0) (po_some pe_int) (po_some (pe_op op_add pe_int (pv 4))))) (pg_name (i := 6) scWeb.nd rfl (Or.inl rfl))
        (pss_cons (ps_set (i := 7) scWeb.nd rfl (Or.inl rfl) (pe_op op_mod (pv 6) (pv 3)))
        (pss_cons (ps_set (i := 8) scWeb.nd rfl (Or.inl rfl) (pe_op op_mod (pe_op op_fdiv (pv 6) (pv 3)) (pv 3)))
        (pss_cons (ps_if (PW.pt (pw_and (pt_cmpR op_eq (pe_op op_mod (pe_op op_fdiv (pv 6) pe_int) pe_int) pe_int (nomark _)) (pw_and1 (pt_cmpR (op_neNilK K (units66 hr)) (pv 5) (pe_lst pa_nil) (nomark _)))))
          (pss_one (ps_asg (pe_ix (ix_listK K) (pv 5) (pe_un un_neg pe_int) (fun _ _ => rfl)) (pg_tupK K 2 rfl (pgs_cons (pg_name (i := 7) scWeb.nd rfl (Or.inl rfl)) (pgs_cons (pg_name (i := 8) scWeb.nd rfl (Or.inl rfl)) pgs_nil))))) pss_nil)
        (pss_one (ps_expr (pe_bm PySem.F.plainAttrs_list PySem.F.slot_list_append PySem.F.type_list_append mt_append (pv 5) (pa_cons (pe_tup (pa_cons (pe_callB (call_min2 rfl) (by rfl) T.min boot_min' (pa_cons (pv 7) (pa_cons (pv 8) pa_nil))) (pa_cons (pe_callB (call_max2 rfl) (by rfl) T.max boot_max' (pa_cons (pv 7) (pa_cons (pv 8) pa_nil))) pa_nil))) pa_nil))))))))
      (pss_one (ps_ret (pe_tup (pa_cons (pv 3) (pa_cons (pe_callTy (call_tuple_ofK K) rfl T.tuple boot_tuple' (pa_cons (pv 5) pa_nil)) pa_nil))))))))))), ?_⟩
    refine ⟨_, rfl, a, ns, 0, rfl, hq, ?_⟩
    generalize ns.getD 0 0 = head
    have b1 := mod_in head 5 (by decide)
    have b2 := mod_in (head / 40) 9 (by decide)
    refine ⟨_, rfl, _, _, rfl, rfl, (by show (0 : Int) < 5; decide), _, _, rfl, rfl, ?_⟩
    refine ⟨_, rfl, _, _, rfl, rfl, ⟨by decide, by decide⟩, _, _, rfl, rfl, (by show (0 : Int) < 8; decide), rfl, _, rfl, ?_⟩
    refine ite2 (fun _ => ?wt) (fun _ => ?wf)
    case' wt =>
      refine ⟨_, rfl, _, _, rfl, rfl, ⟨by decide, by decide⟩, _, _, rfl, rfl, (by show (0 : Int) < 9; decide), _, _, rfl, rfl, ?_⟩
      dsimp only [List.set]
      have n1 : 1 <= 1 + head / 40 % 9 := by omega
      have n9 : 1 + head / 40 % 9 <= 9 := by omega
      generalize 1 + head / 40 % 9 = n at n1 n9 ⊢
    case' wf =>
      dsimp only [List.set]
      have n1 : 1 <= 1 + head % 5 := by omega
      have n9 : 1 + head % 5 <= 9 := by omega
      generalize 1 + head % 5 = n at n1 n9 ⊢
    all_goals (
      refine ⟨_, rfl, ?_⟩
      refine ⟨_, rfl, _, _, rfl, rfl, ⟨by decide, by decide⟩, _, _, rfl, rfl, (by show (0 : Int) < 8; decide), rfl, _, rfl, ?_⟩
      refine ite2 (fun _ => ?_) (fun _ => ?_)
      case' refine_1 =>
        dsimp only [List.set]
        obtain ⟨ms, em, ml⟩ := cut_to ns 7 (by decide) (by decide)
      case' refine_2 =>
        dsimp only [List.set]
        obtain ⟨ms, em, ml⟩ := cut_to ns 5 (by decide) (by decide)
      all_goals (
        refine ⟨Nat.zero_le _, fun l hl => ?_⟩
        have s1 := Same.new (o := HO.lst []) hl
        have g1 : (upd H l (.lst [])) l = some (.lst []) := upd_same
        generalize upd H l (.lst []) = H1 at s1 g1 ⊢
        refine ⟨_, rfl, _, rfl, _, rfl, _, _, rfl, rfl, _, rfl, a, _, rfl, s1.seq hq, fun p1 hp1 => ⟨p1, rfl, ⟨_, SqL.of upd_same⟩, ?_⟩⟩
        rw [em]
        have s2 := Same.new (o := HO.lst (ms.map V.int)) hp1
        have hp1' : (upd H1 p1 (.lst (ms.map V.int))) p1 = some (.lst (ms.map V.int)) := upd_same
        have g2 := s2 _ _ g1
        have nlp : p1 ≠ l := fun z => by rw [z] at hp1; rw [g1] at hp1; cases hp1
        have s12 := s1.trans s2
        generalize upd H1 p1 (.lst (ms.map V.int)) = H2 at s2 hp1' g2 s12 ⊢
        refine for_seq (k := .l) (K := K) (a := p1) (xs := ms.map V.int) (fun i σ H' => ∃ mo u v r, σ = [some (.ref a), some (.int 5), some (.int head), some (.int n), mo, some (.ref l), u, v, r] /\ Same H H' /\ H' p1 = some (.lst (ms.map V.int)) /\ ∃ xs ps, H' l = some (.lst xs) /\ Paired (TieAt H') xs ps /\ ps.length = i /\ ∀ p ∈ ps, InN n p /\ p.1 <= p.2)
          ⟨_, _, _, _, rfl, s12, hp1', [], [], g2, .nil, rfl, fun _ z => nomatch z⟩ (fun i σ H' _ ⟨_, _, _, _, _, _, z, _⟩ => SqL.of z) ?_ ?_
        · rintro i x σ H3 hx ⟨mo, u, v, r, rfl, sm, hp3, xs, ps, hl3, ht, pl, hb⟩
          obtain ⟨cell, ec, rfl⟩ := get_int' hx
          have il : i < 8 := by
            have := (List.getElem?_eq_some_iff.mp ec).1
            omega
          dsimp only [gName, List.set]
          refine ⟨_, rfl, _, rfl, _, _, rfl, rfl, (by show 0 < n; omega), ?_⟩
          refine ⟨_, rfl, _, rfl, _, _, rfl, rfl, ⟨by show 0 < n; omega, by show n < 1073741824; omega⟩, _, rfl, _, _, rfl, rfl, (by show 0 < n; omega), ?_⟩
          have m1 := mod_in cell n (by omega)
          have m2 := mod_in (cell / n) n (by omega)
          dsimp only
          generalize cell % n = A1 at m1 ⊢
          generalize cell / n % n = B1 at m2 ⊢
          refine ⟨_, rfl, _, _, rfl, rfl, ⟨by decide, by decide⟩, _, _, rfl, rfl, (by show (0 : Int) < 4; decide), rfl, _, rfl, ?_⟩
          refine ite2 (fun _ => ?_) (fun _ => iteF ?_)
          case' refine_2 =>
            obtain ⟨H4, s4, hH4⟩ : ∃ H4, Same H3 H4 /\ H4 = H3 := ⟨H3, Same.refl _, rfl⟩
            rw [<- hH4]
            clear hH4
          case' refine_1 =>
            refine ⟨_, rfl, Nat.zero_le _, fun e he => ⟨l, e, xs, rfl, rfl, SqL.of (Same.new he _ _ hl3), SqL.of upd_same, _, rfl, ?_⟩⟩
            have s4 := Same.new (o := HO.lst []) he
            have ht4 := ties_same ht s4
            have hl4 := s4 _ _ hl3
            generalize upd H3 e (.lst []) = H4 at s4 ht4 hl4 ⊢
            by_cases x0 : xs = []
            case' pos =>
              rw [decide_eq_true x0]
              refine iteF ?_
              clear x0 ht4 hl4
            case' neg =>
              rw [decide_eq_false x0]
              obtain ⟨c, p, e1, e2, e3⟩ := last_tie ht4 x0
              have ip := (hb p e3).1
              refine iteT ⟨_, rfl, _, rfl, l, _, _, _, rfl, rfl, SqL.of hl4, e1, c, _, rfl, SqT.of e2, rfl, _, _, rfl, _, _, rfl, rfl, ?_⟩
              dsimp only [List.set]
              clear m1 m2
              have m1 : 0 <= p.1 /\ p.1 < n := ⟨ip.1, ip.2.1⟩
              have m2 : 0 <= p.2 /\ p.2 < n := ⟨ip.2.2.1, ip.2.2.2⟩
              clear ip e1 e2 e3 ht4 hl4 x0 A1 B1
              generalize p.1 = A1 at m1 ⊢
              generalize p.2 = B1 at m2 ⊢
          all_goals (
            have hl4 := s4 _ _ hl3
            have hp4 := s4 _ _ hp3
            have ht4 := ties_same ht s4
            have sm4 := sm.trans s4
            refine ⟨_, rfl, .inl ⟨rfl, _, SqL.of hl4⟩, _, rfl, _, rfl, _, _, rfl, _, rfl, _, rfl, _, _, rfl, by show 2 <= sizeLine; decide, fun c hc => ?_⟩
            have s5 := Same.new (o := HO.tup [.int (if B1 < A1 then B1 else A1), .int (if B1 > A1 then B1 else A1)]) hc
            have hl5 := s5 _ _ hl4
            have hp5 := s5 _ _ hp4
            have ht5 := ties_same ht4 s5
            have hc5 : (upd H4 c (.tup [.int (if B1 < A1 then B1 else A1), .int (if B1 > A1 then B1 else A1)])) c = some (.tup [.int (if B1 < A1 then B1 else A1), .int (if B1 > A1 then B1 else A1)]) := upd_same
            have sm5 := sm4.trans s5
            generalize upd H4 c (.tup [.int (if B1 < A1 then B1 else A1), .int (if B1 > A1 then B1 else A1)]) = H5 at hl5 hp5 ht5 hc5 sm5 ⊢
            have xl : xs.length = ps.length := Paired.length ht5
            refine ⟨l, xs, .ref c, rfl, rfl, hl5, Nat.lt_of_le_of_lt (show xs.length <= 8 by omega) (by decide), ?_⟩
            have tc : Paired (TieAt H5) (xs ++ [.ref c]) (ps ++ [(if B1 < A1 then B1 else A1, if B1 > A1 then B1 else A1)]) := L2.Paired.snoc ht5 ⟨c, rfl, hc5⟩
            refine ⟨_, _, _, _, rfl, same_put sm5 hl, by rw [upd_ne nlp]; exact hp5, xs ++ [.ref c], _, upd_same, ties_put tc hl5, by rw [List.length_append, pl, List.length_singleton], fun p hp => ?_⟩
            rcases List.mem_append.mp hp with hp | hp
            · exact hb p hp
            · rw [List.mem_singleton.mp hp]
              unfold InN
              dsimp only
              split <;> split <;> omega)
        · rintro σ H3 ⟨mo, u, v, r, rfl, sm, hp3, xs, ps, hl3, ht, pl, hb⟩
          rw [List.length_map] at pl
          refine ⟨_, rfl, _, rfl, l, xs, rfl, .inl ⟨SqL.of hl3, fun d hd => ⟨by show 2 <= sizeLine; decide, fun c hc => ?_⟩⟩⟩
          have s4 := Same.new (o := HO.tup xs) hd
          have s5 := Same.new (o := HO.tup [.int n, .ref d]) hc
          exact q (.ref c) n ps _ (sm.trans (s4.trans s5)) ⟨c, d, xs, rfl, upd_same, s5 _ _ upd_same, ties_same ht (s4.trans s5)⟩ ⟨⟨n1, n9⟩, fun p hp => (hb p hp).1, by omega⟩ fun p hp => (hb p hp).2))
end
def spLRank5 (K : W.Frag) : Sp := fun vs H Q _ => ∃ (kd : Kd) (wv : V) (pk : Addr) (n : Int) (ps : List (Int × Int)) (ks : List Int), vs = [wv, .ref pk] /\ WebAt H wv n ps /\ WebOk n ps /\ SqK kd K H pk (ks.map V.int) /\ Ks ps.length ks /\ ∀ H', Same H H' -> Q (.int (rk n ps ks)) H'
def spPick : Sp := fun vs H Q _ => ∃ (b : Int) (m : Nat), vs = [.int b, .int m] /\ m <= 8 /\ ∀ t H', Same H H' -> H' t = some (.tup ((pkB b m).map V.int)) -> Q (.ref t) H'
def spLTrees (K : W.Frag) : Sp := fun vs H Q _ => ∃ (wv : V) (n : Int) (ps : List (Int × Int)), vs = [wv] /\ WebAt H wv n ps /\ WebOk n ps /\ ∀ l rs H', Same H H' -> H' l = some (.lst rs) -> Paired (TupAt H') rs (treesP n ps) -> Q (.ref l) H'
theorem put_fresh {H H2 : Hp} {g : Addr} {o : HO} (s : Same H H2) (h : H g = none) : Same H (upd H2 g o) := fun b u e => by rw [upd_ne (ne_of_none e h)]; exact s b u e
section
variable {P : Program} {w : World} {K : W.Frag} {mg : Str -> Option Value} {base : Heap}
theorem kp_int (K : W.Frag) : PySem.W.kitOne K (.type "int") (.type "int") = some true := by first | rfl | decide +kernel
theorem kp_intb (K : W.Frag) : PySem.W.kitOne K (.type "int") (.type "bool") = some false := by first | rfl | decide +kernel
theorem kp_lst (K : W.Frag) : PySem.W.kitOne K (.type "list") (.type "list") = some true := by rfl
theorem scLRank : FnScope ["_law_web_here", "_law_pick_here", "_law_marks", "_law_found", "_law_k", "_law_one", "_law_two"] ["_law_web_here", "_law_pick_here"] (defScope sLRank) := ⟨rfl, rfl, rfl, by decide +kernel, rfl, by decide +kernel, by decide +kernel⟩
theorem nd4 : (["_law_mark", "_law_one", "_law_two"] : List Str).Nodup := by decide +kernel
theorem d_lrank (T : Txt K mg) (S : Src K mg "_law_rank" sLRank ["_law_web_here", "_law_pick_here"]) : Def P w K mg base 1 "_law_rank" ["_law_web_here", "_law_pick_here"] (spLRank5 K) := by
  refine S.def scLRank (fun vs H Q E h => ?_) (fun f cdv A outer s H vs Q E hr h => ?_)
  · obtain ⟨_, _, _, _, _, _, rfl, _⟩ := h; rfl
  · obtain ⟨kd, wv, pk, n, ps, ks, rfl, W, ⟨⟨n1, n9⟩, hb, h8⟩, hk, hks, q⟩ := h
    obtain ⟨c, d, xs, rfl, hc, hd, ht⟩ := W.ex
    obtain ⟨m, rfl⟩ := Int.eq_ofNat_of_zero_le (show 0 <= n by omega)
    refine ⟨_, pss_cons (ps_set (i := 2) scLRank.nd rfl (Or.inl rfl) (pe_callTy (call_list_rng rfl) rfl T.list boot_list' (pa_cons (pe_callTy call_range1 rfl T.range boot_range' (pa_cons (pe_ix (ix_tupK K) (pv 0) pe_int (fun _ _ => rfl)) pa_nil)) pa_nil)))
      (pss_cons (ps_set (i := 3) scLRank.nd rfl (Or.inl rfl) pe_int)
      (pss_cons (ps_for PassesOwn.never rfl (pi_seqK K kd (pv 1)) (pg_name (i := 4) scLRank.nd rfl (Or.inl rfl))
        (pss_cons (ps_set (i := 5) scLRank.nd rfl (Or.inr rfl) (pe_ix (ix_listK K) (pv 2) (pe_ix (ix_tupK K) (pe_ix (ix_tupK K) (pe_ix (ix_tupK K) (pv 0) pe_int (fun _ _ => rfl)) (pv 4) (fun _ _ => rfl)) pe_int (fun _ _ => rfl)) (fun _ _ => rfl)))
        (pss_cons (ps_set (i := 6) scLRank.nd rfl (Or.inr rfl) (pe_ix (ix_listK K) (pv 2) (pe_ix (ix_tupK K) (pe_ix (ix_tupK K) (pe_ix (ix_tupK K) (pv 0) pe_int (fun _ _ => rfl)) (pv 4) (fun _ _ => rfl)) pe_int (fun _ _ => rfl)) (fun _ _ => rfl)))
        (pss_one (ps_if (pt_cmpR op_ne (pv 5) (pv 6) (nomark _))
          (pss_cons (ps_setComp (i := 2) scLRank.nd rfl (Or.inl rfl) (N' := ["_law_mark", "_law_one", "_law_two"]) (fr := [none, some 5, some 6]) (compOk_of (by rfl)) rfl (pi_seqK K .l (pv 2))
            (fun _ _ _ _ => pg_name (i := 0) nd4 rfl (Or.inl rfl) (Or.inr rfl)) (fun _ _ _ _ => pifs_nil)
            (fun _ _ _ _ => pe_ix (r := rIxL K) (ix_listK K) (pe_lst (pa_cons (pv 0) (pa_cons (pv 1) pa_nil))) (pe_callTy call_int1 rfl T.int boot_int' (pa_cons (pe_cmpR op_eq (pv 0) (pv 2) (nomark _)) pa_nil)) (fun _ _ => rfl)))
          (pss_one (ps_set (i := 3) scLRank.nd rfl (Or.inl rfl) (pe_op op_add (pv 3) pe_int)))) pss_nil)))))
      (pss_one (ps_ret (pv 3))))), ?_⟩
    have i0 : atI ([.int m, .ref d] : List V) 0 = some (.int m) := atI_nat (j := 0) rfl
    have i1 : atI ([.int m, .ref d] : List V) 1 = some (.ref d) := atI_nat (j := 1) rfl
    refine ⟨_, rfl, c, _, _, _, rfl, rfl, SqT.of hc, i0, _, rfl, fun p hp => ⟨p, m, rfl, upd_same, by omega, fun l hl => ?_⟩⟩
    have s1 := (Same.new (o := HO.rng 0 m) hp).trans (Same.new (o := HO.lst (upN m)) hl)
    have hl1 : (upd (upd H p (.rng 0 m)) l (.lst (upN m))) l = some (.lst ((ups m).map V.int)) := by rw [upd_same, upN_ups]
    generalize upd (upd H p (.rng 0 m)) l (.lst (upN m)) = H1 at s1 hl1 ⊢
    refine ⟨_, rfl, pk, rfl, ⟨_, s1.seqK hk⟩, for_seqK (k := kd) (K := K) (a := pk) (xs := ks.map V.int) (fun i σ H' => ∃ l u v t, σ = [some (.ref c), some (.ref pk), some (.ref l), some (.int (rkF ps (ups m, 0) (ks.take i)).2), u, v, t] /\ Same H H' /\ H' l = some (.lst ((rkF ps (ups m, 0) (ks.take i)).1.map V.int))) ⟨l, _, _, _, rfl, s1, hl1⟩ (fun i σ H' _ ⟨_, _, _, _, _, z, _⟩ => z.seqK hk) ?_ ?_⟩
    · rintro i x σ H' hx ⟨l, u, v, t, rfl, sm, hl⟩
      obtain ⟨k, ek, rfl⟩ := get_int' hx
      obtain ⟨k0, kl⟩ := hks k (List.mem_of_getElem? ek)
      obtain ⟨tc, et, htc⟩ := at_tie ht k0 kl
      obtain ⟨b1, b2, b3, b4⟩ := tieN_in hb k0 kl
      generalize hst : rkF ps (ups m, 0) (ks.take i) = st at hl
      have msl : st.1.length = m := by rw [<- hst, rkF_len, ups_len]; simp
      have t0 : atI ([.int (tieN ps k).1, .int (tieN ps k).2] : List V) 0 = some (.int (tieN ps k).1) := atI_nat (j := 0) rfl
      have t1 : atI ([.int (tieN ps k).1, .int (tieN ps k).2] : List V) 1 = some (.int (tieN ps k).2) := atI_nat (j := 1) rfl
      have a0 := at_int (l := st.1) (i := (tieN ps k).1) b1 (by omega)
      have a1 := at_int (l := st.1) (i := (tieN ps k).2) b3 (by omega)
      have htc' := sm _ _ htc
      have hc' := sm _ _ hc
      have hd' := sm _ _ hd
      dsimp only [gName, List.set]
      refine ⟨_, rfl, _, rfl, c, _, _, _, rfl, rfl, SqT.of hc', i1, _, rfl, d, _, _, _, rfl, rfl, SqT.of hd', et, tc, _, _, _, rfl, rfl, SqT.of htc', t0, l, _, _, _, rfl, rfl, SqL.of hl, a0, ?_⟩
      refine ⟨_, rfl, _, rfl, c, _, _, _, rfl, rfl, SqT.of hc', i1, _, rfl, d, _, _, _, rfl, rfl, SqT.of hd', et, tc, _, _, _, rfl, rfl, SqT.of htc', t1, l, _, _, _, rfl, rfl, SqL.of hl, a1, ?_⟩
      refine ⟨_, rfl, _, rfl, rfl, _, rfl, ?_⟩
      by_cases he : at0 st.1 (tieN ps k).1 = at0 st.1 (tieN ps k).2
      · rw [he]
        refine iteNS rfl ?_
        have e2 : rkF ps (ups m, 0) (ks.take (i + 1)) = st := by
          rw [take_succ_of ek, rkF_snoc, hst]
          unfold stepM
          exact if_pos he
        refine ⟨l, some (.int k), some (.int (at0 st.1 (tieN ps k).2)), some (.int (at0 st.1 (tieN ps k).2)), ?_, sm, by rw [e2]; exact hl⟩
        rw [e2]
        rfl
      · rw [decide_eq_false (show ¬ V.int (at0 st.1 (tieN ps k).1) = V.int (at0 st.1 (tieN ps k).2) from fun z => he (by injection z))]
        refine iteT ?_
        have e2 : rkF ps (ups m, 0) (ks.take (i + 1)) = (st.1.map fun z => if z = at0 st.1 (tieN ps k).2 then at0 st.1 (tieN ps k).1 else z, st.2 + 1) := by
          rw [take_succ_of ek, rkF_snoc, hst]
          unfold stepM
          exact if_neg he
        generalize at0 st.1 (tieN ps k).1 = one at e2 ⊢
        generalize at0 st.1 (tieN ps k).2 = oth at e2 ⊢
        refine ⟨_, rfl, l, rfl, ⟨_, SqL.of hl⟩, comp_seq (k := .l) (a := l) (xs := st.1.map V.int) (fun σ => ∃ v, σ = [v, some (.int one), some (.int oth)]) (fun j ys H2 => Same H' H2 /\ ys = (st.1.take j).map fun h => V.int (if h = oth then one else h)) ⟨_, rfl⟩ ⟨Same.refl _, rfl⟩ (by rw [List.length_map]; exact ten_line (by omega)) (fun j ys H2 _ z => SqL.of (z.1 _ _ hl)) ?_ ?_⟩
        · rintro j x ys σ H2 N hx ⟨u, rfl⟩ ⟨sm2, rfl⟩ hN
          obtain ⟨h0, eh, rfl⟩ := get_int' hx
          dsimp only [gName, List.set]
          refine yesT ?_
          refine ⟨_, rfl, _, rfl, by show 2 <= sizeLine; decide, fun g hg => ?_⟩
          have s3 := Same.new (o := HO.lst [V.int h0, .int one]) hg
          have hg3 : (upd H2 g (.lst [V.int h0, .int one])) g = some (.lst [V.int h0, .int one]) := upd_same
          generalize upd H2 g (.lst [V.int h0, .int one]) = H3 at s3 hg3 ⊢
          by_cases he2 : h0 = oth
          · refine ⟨_, rfl, _, rfl, rfl, .inr ⟨true, by rw [decide_eq_true (show V.int h0 = V.int oth by rw [he2])], g, _, _, _, rfl, rfl, SqL.of hg3, atI_nat (j := 1) rfl, ?_⟩⟩
            refine hN _ _ _ ⟨_, rfl⟩ ⟨sm2.trans s3, ?_⟩ (by simp)
            rw [take_succ_of eh, List.map_append, List.map_cons, List.map_nil, if_pos he2]
          · refine ⟨_, rfl, _, rfl, rfl, .inr ⟨false, by rw [decide_eq_false (show ¬ V.int h0 = V.int oth from fun z => he2 (by injection z))], g, _, _, _, rfl, rfl, SqL.of hg3, atI_nat (j := 0) rfl, ?_⟩⟩
            refine hN _ _ _ ⟨_, rfl⟩ ⟨sm2.trans s3, ?_⟩ (by simp)
            rw [take_succ_of eh, List.map_append, List.map_cons, List.map_nil, if_neg he2]
        · rintro ys H2 ⟨sm2, rfl⟩ p2 hp2
          dsimp only [List.set]
          refine ⟨_, rfl, _, _, rfl, rfl, p2, some (.int k), some (.int one), some (.int oth), ?_, (sm.trans sm2).trans (Same.new hp2), ?_⟩
          · rw [e2]
            rfl
          · rw [upd_same, e2, List.length_map, List.take_length, List.map_map]
            rfl
    · rintro σ H' ⟨l, u, v, t, rfl, sm, hl⟩
      have q' := q H' sm
      unfold rk at q'
      refine ⟨_, rfl, ?_⟩
      rw [List.length_map, List.take_length]
      exact q'
theorem scPick : FnScope ["_law_mask", "_law_many"] ["_law_mask", "_law_many"] (defScope sPick) := ⟨rfl, rfl, rfl, by decide +kernel, rfl, by decide +kernel, by decide +kernel⟩
theorem nd2p : (["_law_k", "_law_mask"] : List Str).Nodup := by decide +kernel
theorem d_pick (T : Txt K mg) (S : Src K mg "_law_pick" sPick ["_law_mask", "_law_many"]) : Def P w K mg base 1 "_law_pick" ["_law_mask", "_law_many"] spPick := by
  refine S.def scPick (fun vs H Q E h => ?_) (fun f cdv A outer s H vs Q E hr h => ?_)
  · obtain ⟨_, _, rfl, _⟩ := h; rfl
  · obtain ⟨b, m, rfl, m8, q⟩ := h
    refine ⟨_, pss_one (ps_ret (pe_callTy (call_tuple_ofK K) rfl T.tuple boot_tuple' (pa_cons (pe_comp (N' := ["_law_k", "_law_mask"]) (fr := [none, some 0]) (compOk_of (by rfl)) rfl (pi_range1 rfl T.range (pa_cons (pv 1) pa_nil))
      (fun _ _ _ _ => pg_name (i := 0) nd2p rfl (Or.inl rfl) (Or.inr rfl)) (fun _ _ _ _ => pifs_one (pt_cmpR op_eq (pe_op op_and (pe_op op_shr (pv 1) (pv 0)) pe_int) pe_int (nomark _))) (fun _ _ _ _ => pv 0)) pa_nil))), ?_⟩
    refine ⟨_, rfl, (m : Int), rfl, by omega, by omega, ?_⟩
    rw [Int.toNat_natCast]
    refine comp_range (lo := 0) (n := m) (fun σ => ∃ v, σ = [v, some (.int b)]) (fun j ys H5 => H5 = H /\ ys = ((ups j).filter (bitI b)).map V.int) ⟨_, rfl⟩ ⟨rfl, rfl⟩ (ten_line (by omega)) ?_ ?_
    · rintro j ys σ H5 N hj ⟨u, rfl⟩ ⟨rfl, rfl⟩ hN
      rw [show (0 : Int) + (j : Int) = (j : Int) by omega]
      dsimp only [gName, List.set]
      have eb : decide (V.int (Builtin.bitAnd (b / 2 ^ (j : Int).toNat) 1) = V.int 1) = bitI b j := by
        unfold bitI
        rw [decide_eq_decide]
        exact ⟨fun z => by injection z, fun z => by rw [z]⟩
      refine ⟨_, rfl, _, rfl, _, _, rfl, rfl, (by show (0 : Int) <= (j : Int); omega), _, _, rfl, rfl, rfl, _, rfl, ?_⟩
      rw [eb]
      have e1 : ups ((j + 1 : Nat) : Int) = ups j ++ [(j : Int)] := by rw [show ((j + 1 : Nat) : Int) = (j : Int) + 1 by omega, ups_snoc (by omega)]
      refine ite2 (fun z => ⟨_, rfl, ?_⟩) (fun z => ?_)
      · refine hN _ _ _ ⟨_, rfl⟩ ⟨rfl, ?_⟩ (by simp)
        rw [e1, List.filter_append, List.map_append]
        simp [z]
      · refine hN _ _ _ ⟨_, rfl⟩ ⟨rfl, ?_⟩ (by simp)
        rw [e1, List.filter_append]
        simp [z]
    · rintro ys H5 ⟨rfl, rfl⟩ p hp
      refine ⟨p, _, rfl, .inl ⟨SqL.of upd_same, fun t ht => ?_⟩⟩
      refine q t _ ((Same.new hp).trans (Same.new ht)) ?_
      rw [upd_same]
      rfl
theorem scLTrees : FnScope ["_law_web_here", "_law_many", "_law_whole", "_law_found", "_law_mask", "_law_pick_here"] ["_law_web_here"] (defScope sLTrees) := ⟨rfl, rfl, rfl, by decide +kernel, rfl, by decide +kernel, by decide +kernel⟩
theorem tups_ints {H : Hp} : ∀ {rs : List V} {kss : List (List Int)}, Paired (TupAt H) rs kss -> Paired (IntsAt H) rs kss := fun h => h
theorem tups_putl {H : Hp} {l : Addr} {ys zs : List V} {xs : List V} {ps : List (List Int)} (h : Paired (TupAt H) xs ps) (hl : H l = some (.lst ys)) : Paired (TupAt (upd H l (.lst zs))) xs ps := L2.Paired.mapP h fun _ _ ⟨a, h1, h2⟩ => ⟨a, h1, by
  rw [upd_ne (ne_of h2 hl (fun z => nomatch z))]
  exact h2⟩
theorem d_ltrees (T : Txt K mg) (S : Src K mg "_law_trees" sLTrees ["_law_web_here"]) (DR : Def P w K mg base 1 "_law_rank" ["_law_web_here", "_law_pick_here"] (spLRank5 K)) (DP : Def P w K mg base 1 "_law_pick" ["_law_mask", "_law_many"] spPick) : Def P w K mg base 2 "_law_trees" ["_law_web_here"] (spLTrees K) := by
  refine S.def scLTrees (fun vs H Q E h => ?_) (fun f cdv A outer s H vs Q E hr h => ?_)
  · obtain ⟨_, _, _, rfl, _⟩ := h; rfl
  · obtain ⟨wv, n, ps, rfl, W, ok, q⟩ := h
    obtain ⟨⟨n1, n9⟩, hb, h8⟩ := id ok
    obtain ⟨c, d, xs, rfl, hc, hd, ht⟩ := W.ex
    have xl : xs.length = ps.length := Paired.length ht
    have hr1 : Room 1 _ := hr.mono (by decide)
    refine ⟨_, pss_cons (ps_set (i := 1) scLTrees.nd rfl (Or.inl rfl) (pe_callB (call_lenK K) (by rfl) T.len PySem.boot_len (pa_cons (pe_ix (ix_tupK K) (pv 0) pe_int (fun _ _ => rfl)) pa_nil)))
      (pss_cons (ps_set (i := 2) scLTrees.nd rfl (Or.inl rfl) (pe_def DR hr1 rfl (pa_cons (pv 0) (pa_cons (pe_callTy (call_list_rng rfl) rfl T.list boot_list' (pa_cons (pe_callTy call_range1 rfl T.range boot_range' (pa_cons (pv 1) pa_nil)) pa_nil)) pa_nil))))
      (pss_cons (ps_set (i := 3) scLTrees.nd rfl (Or.inl rfl) (pe_lst pa_nil))
      (pss_cons (ps_for PassesOwn.never rfl (pi_range1 rfl T.range (pa_cons (pe_op op_shl pe_int (pv 1)) pa_nil)) (pg_name (i := 4) scLTrees.nd rfl (Or.inl rfl))
        (pss_cons (ps_set (i := 5) scLTrees.nd rfl (Or.inl rfl) (pe_def DP hr1 rfl (pa_cons (pv 4) (pa_cons (pv 1) pa_nil))))
        (pss_one (ps_if (PW.pt (pw_and (pt_cmpR op_eq (pe_callB (call_lenK K) (by rfl) T.len PySem.boot_len (pa_cons (pv 5) pa_nil)) (pv 2) (nomark _)) (pw_and1 (pt_cmpR op_eq (pe_def DR hr1 rfl (pa_cons (pv 0) (pa_cons (pv 5) pa_nil))) (pv 2) (nomark _)))))
          (pss_one (ps_expr (pe_bm PySem.F.plainAttrs_list PySem.F.slot_list_append PySem.F.type_list_append mt_append (pv 3) (pa_cons (pv 5) pa_nil)))) pss_nil))))
      (pss_one (ps_ret (pe_callB call_sortedH (by rfl) T.sorted boot_sorted' (pa_cons (pv 3) pa_nil))))))), ?_⟩
    have i1 : atI ([.int n, .ref d] : List V) 1 = some (.ref d) := atI_nat (j := 1) rfl
    refine ⟨_, rfl, c, _, _, _, rfl, rfl, SqT.of hc, i1, d, xs, rfl, .inr (SqT.of hd), ?_⟩
    rw [xl]
    refine ⟨_, rfl, _, rfl, _, rfl, fun p hp => ⟨p, ps.length, rfl, upd_same, by omega, fun l hl => ?_⟩⟩
    have s1 := (Same.new (o := HO.rng 0 ps.length) hp).trans (Same.new (o := HO.lst (upN ps.length)) hl)
    have hl1 : (upd (upd H p (.rng 0 ps.length)) l (.lst (upN ps.length))) l = some (.lst ((ups ps.length).map V.int)) := by rw [upd_same, upN_ups]
    generalize upd (upd H p (.rng 0 ps.length)) l (.lst (upN ps.length)) = H1 at s1 hl1 ⊢
    refine ⟨.l, .ref c, l, n, ps, ups ps.length, rfl, W.same s1, ok, SqL.of hl1, ups_ks _, fun H2 s2 => ?_⟩
    have s12 := s1.trans s2
    generalize hwh : rk n ps (ups ps.length) = wh
    refine ⟨Nat.zero_le _, fun g hg => ?_⟩
    have gN : H g = none := by
      cases e : H g with
      | none => rfl
      | some o => exact absurd (s12 _ _ e) (by rw [hg]; intro z; cases z)
    have s3 := s12.trans (Same.new (o := HO.lst []) hg)
    have g3 : (upd H2 g (.lst [])) g = some (.lst []) := upd_same
    generalize upd H2 g (.lst []) = H3 at s3 g3 ⊢
    have e2 : (1 : Int) * 2 ^ ((ps.length : Nat) : Int).toNat = ((2 ^ ps.length : Nat) : Int) := by rw [Int.one_mul, Int.toNat_natCast, Int.natCast_pow]; rfl
    have p256 : 2 ^ ps.length <= 256 := Nat.pow_le_pow_right (by decide) h8
    refine ⟨_, rfl, _, _, rfl, rfl, ⟨by omega, by omega, by decide⟩, _, rfl, ?_⟩
    rw [e2]
    have i256 : ((2 ^ ps.length : Nat) : Int) <= 256 := Int.ofNat_le.mpr p256
    have i0 : 0 <= ((2 ^ ps.length : Nat) : Int) := Int.natCast_nonneg _
    refine ⟨by revert i0 i256; generalize ((2 ^ ps.length : Nat) : Int) = z; omega, by revert i0 i256; generalize ((2 ^ ps.length : Nat) : Int) = z; omega, ?_⟩
    refine for_range (lo := 0) (n := ((2 ^ ps.length : Nat) : Int).toNat) (fun j σ H' => (∃ u v, σ = [some (.ref c), some (.int (ps.length : Int)), some (.int wh), some (.ref g), u, v]) /\ Same H H' /\ ∃ zs, H' g = some (.lst zs) /\ Paired (TupAt H') zs (((List.range j).map fun b : Nat => pkB (b : Int) ps.length).filter fun p => decide ((p.length : Int) = wh) && decide (rk n ps p = wh)))
      ⟨⟨_, _, rfl⟩, s3, [], g3, .nil⟩ ?_ ?_
    · rintro j σ H4 hj ⟨⟨u, v, rfl⟩, sm, zs, hz, pz⟩
      rw [Int.toNat_natCast] at hj
      dsimp only [gName, List.set]
      rw [show (0 : Int) + (j : Int) = (j : Int) by omega]
      refine ⟨_, rfl, _, rfl, (j : Int), ps.length, rfl, h8, fun t H5 s5 ht5 => ?_⟩
      have hz5 := s5 _ _ hz
      have pz5 := tups_same pz s5
      have sm5 := sm.trans s5
      generalize hpk : pkB (j : Int) ps.length = pk at ht5
      have kpk : Ks ps.length pk := by rw [<- hpk]; exact pkB_ks _ _
      have er : ((List.range (j + 1)).map fun b : Nat => pkB (b : Int) ps.length).filter (fun p => decide ((p.length : Int) = wh) && decide (rk n ps p = wh)) = (((List.range j).map fun b : Nat => pkB (b : Int) ps.length).filter fun p => decide ((p.length : Int) = wh) && decide (rk n ps p = wh)) ++ (if (decide ((pk.length : Int) = wh) && decide (rk n ps pk = wh)) = true then [pk] else []) := by
        rw [List.range_succ, List.map_append, List.filter_append]
        congr 1
        show List.filter _ [pkB (j : Int) ps.length] = _
        rw [hpk]
        cases h : (decide ((pk.length : Int) = wh) && decide (rk n ps pk = wh)) <;> simp [h]
      have zl : zs.length <= 256 := by
        have z1 := Paired.length pz
        have z2 := List.length_filter_le (fun p : List Int => decide ((p.length : Int) = wh) && decide (rk n ps p = wh)) ((List.range j).map fun b : Nat => pkB (b : Int) ps.length)
        rw [List.length_map, List.length_range] at z2
        omega
      refine ⟨_, rfl, t, _, rfl, .inr (SqT.of ht5), _, rfl, rfl, _, rfl, ?_⟩
      rw [List.length_map, dec_int]
      refine ite2 (fun z1 => ?_) (fun z1 => iteF ?_)
      · refine ⟨_, rfl, _, rfl, .t, .ref c, t, n, ps, pk, rfl, W.same sm5, ok, SqT.of ht5, kpk, fun H6 s6 => ⟨_, rfl, rfl, _, rfl, ?_⟩⟩
        rw [dec_int]
        have hz6 := s6 _ _ hz5
        have pz6 := tups_same pz5 s6
        refine ite2 (fun z2 => ?_) (fun z2 => ?_)
        · refine ⟨_, rfl, .inl ⟨rfl, _, SqL.of hz6⟩, _, rfl, g, zs, .ref t, rfl, rfl, hz6, line300 (by omega), ?_⟩
          refine ⟨⟨_, _, rfl⟩, put_fresh (sm5.trans s6) gN, zs ++ [.ref t], upd_same, ?_⟩
          rw [er, z1, z2]
          exact tups_putl (L2.Paired.snoc pz6 ⟨t, rfl, s6 _ _ ht5⟩) hz6
        · refine ⟨⟨_, _, rfl⟩, sm5.trans s6, zs, hz6, ?_⟩
          rw [er, if_neg (by rw [Bool.and_eq_true]; exact fun z => z2 z.2), List.append_nil]
          exact pz6
      · refine ⟨⟨_, _, rfl⟩, sm5, zs, hz5, ?_⟩
        rw [er, if_neg (by rw [Bool.and_eq_true]; exact fun z => z1 z.1), List.append_nil]
        exact pz5
    · rintro σ H4 ⟨⟨u, v, rfl⟩, sm, zs, hz, pz⟩
      rw [Int.toNat_natCast] at pz
      have zl : zs.length <= 256 := by
        have z1 := Paired.length pz
        have z2 := List.length_filter_le (fun p : List Int => decide ((p.length : Int) = wh) && decide (rk n ps p = wh)) ((List.range (2 ^ ps.length)).map fun b : Nat => pkB (b : Int) ps.length)
        rw [List.length_map, List.length_range] at z2
        omega
      generalize hF : (((List.range (2 ^ ps.length)).map fun b : Nat => pkB (b : Int) ps.length).filter fun p => decide ((p.length : Int) = wh) && decide (rk n ps p = wh)) = F at pz
      refine ⟨_, rfl, g, zs, F, rfl, SqL.of hz, by omega, tups_ints pz, fun h2 ks hks e => ?_, fun l5 rs' kss' p1 p2 p3 hl5 => ?_⟩
      · -- an empty one: the rank is 0, and it stands alone
        subst e
        have w0 : wh = 0 := by
          rw [<- hF] at hks
          have := (List.mem_filter.mp hks).2
          rw [Bool.and_eq_true] at this
          have := of_decide_eq_true this.1
          simpa using this.symm
        have all0 : ∀ p ∈ F, p = [] := fun p hp => by
          rw [<- hF] at hp
          have := (List.mem_filter.mp hp).2
          rw [Bool.and_eq_true] at this
          have := of_decide_eq_true this.1
          rw [w0] at this
          exact List.length_eq_zero_iff.mp (by omega)
        have nd : F.Nodup := by
          rw [<- hF]
          refine List.Pairwise.filter _ ?_
          have e1 : ((List.range (2 ^ ps.length)).map fun b : Nat => pkB (b : Int) ps.length) = (List.range (2 ^ ps.length)).map (pkN ps.length) := List.map_congr_left fun b _ => pkB_pkN
          rw [e1]
          refine (pk_ok h8).perm.nodup_iff.mpr ?_
          exact allP_nd h8
        match F, h2, all0, nd with
        | a :: b :: F', _, all0, nd =>
          have ea := all0 a List.mem_cons_self
          have eb := all0 b (List.mem_cons_of_mem _ List.mem_cons_self)
          rw [ea, eb] at nd
          simp at nd
      · have e3 : kss' = treesP n ps := trees_law n1 n9 hb h8 (by rw [hwh, hF]; exact p2) p3
        subst e3
        have s5 := Same.new (o := HO.lst rs') hl5
        exact q l5 rs' _ (sm.trans s5) upd_same (tups_same p1 s5)
end
def HK (kd : Kd) (H : Hp) (a : Addr) (xs : List V) : Prop := match kd with | .l => H a = some (.lst xs) | .t => FzT H a xs
theorem HK.sq {kd : Kd} {K : W.Frag} {H : Hp} {a : Addr} {xs : List V} (h : HK kd H a xs) : SqK kd K H a xs := by
  cases kd with
  | l => exact SqL.of h
  | t => exact FzT.sq h
theorem HK.same {kd : Kd} {H H' : Hp} {a : Addr} {xs : List V} (h : HK kd H a xs) (s : Same H H') : HK kd H' a xs := by
  cases kd with
  | l => exact s _ _ h
  | t => exact FzT.same h s
def OrdAt (kd : Kd) (H : Hp) (o : V) (m : Nat) (ord : List Int) : Prop := (o = .non /\ ord = ups m) \/ ∃ a, o = .ref a /\ HK kd H a (ord.map V.int) /\ ord.Perm (ups m)
theorem OrdAt.same {kd : Kd} {H H' : Hp} {o : V} {m : Nat} {ord : List Int} (h : OrdAt kd H o m ord) (s : Same H H') : OrdAt kd H' o m ord := by
  rcases h with h | ⟨a, e, h, p⟩
  · exact .inl h
  · exact .inr ⟨a, e, h.same s, p⟩
theorem OrdAt.perm {kd : Kd} {H : Hp} {o : V} {m : Nat} {ord : List Int} (h : OrdAt kd H o m ord) : ord.Perm (ups m) := by
  rcases h with ⟨_, rfl⟩ | ⟨_, _, _, p⟩
  · exact List.Perm.refl _
  · exact p
def rSortedK (kd : Kd) (K : W.Frag) : List V -> Hp -> VK -> Prop := fun xs H Q => ∃ (p : Addr) (ns : List Int), xs = [.ref p] /\ SqK kd K H p (ns.map V.int) /\ ns.length < 64 /\ ∀ (l : Addr) (ms : List Int), ms.Perm ns -> ms.Pairwise (· <= ·) -> H l = none -> Q (.ref l) (upd H l (.lst (ms.map V.int)))
theorem call_sortedK {X : Cx} (kd : Kd) : CallR X (.builtin "sorted") (rSortedK kd X.K) := by
  cases kd with
  | l => exact call_sortedI
  | t => exact call_sortedTI
def spWholeI : Sp := fun vs H Q _ => ∃ i : Int, vs = [.int i] /\ Q (.bl true) H
def spTold (K : W.Frag) : Sp := fun vs H Q _ => ∃ (kd : Kd) (wv o : V) (n : Int) (ps : List (Int × Int)) (ord : List Int), vs = [wv, o] /\ WebAt H wv n ps /\ ps.length <= 8 /\ OrdAt kd H o ps.length ord /\ ∀ t H', Same H H' -> FzT H' t (ord.map V.int) -> Q (.ref t) H'
theorem kit2 (K : W.Frag) {us : List Value} (h : Vals [V.ty "list", V.ty "tuple"] us) (kd : Kd) : PySem.W.kitAny K (.type (match kd with | .l => "list" | .t => "tuple")) us = some true := by
  obtain ⟨u1, u2, rfl, r1, r2⟩ := Vals.two h
  cases (show u1 = Value.type "list" from r1)
  cases (show u2 = Value.type "tuple" from r2)
  cases kd with
  | l => first | rfl | decide +kernel
  | t => first | rfl | decide +kernel
section
variable {P : Program} {w : World} {K : W.Frag} {mg : Str -> Option Value} {base : Heap}
theorem scIsWhole : FnScope ["thing"] ["thing"] (defScope sIsWhole) := ⟨rfl, rfl, rfl, by decide +kernel, rfl, by decide +kernel, by decide +kernel⟩
theorem d_wholeI (T : Txt K mg) (S : Src K mg "is_whole" sIsWhole ["thing"]) : Def P w K mg base 1 "is_whole" ["thing"] spWholeI := by
  refine S.def scIsWhole (fun vs H Q E h => ?_) (fun f cdv A outer s H vs Q E hr h => ?_)
  · obtain ⟨x, rfl, _⟩ := h; rfl
  · obtain ⟨i, rfl, q⟩ := h
    refine ⟨_, pss_one (ps_ret (pe_and (pe_callB (call_isiK K) (by rfl) T.isi boot_isi (pa_cons (pv 0) (pa_cons (pe_bltn (v := .ty "int") rfl T.int boot_int' rfl) pa_nil)))
      (pe_one (pe_not (pe_callB (call_isiK K) (by rfl) T.isi boot_isi (pa_cons (pv 0) (pa_cons (pe_bltn (v := .ty "bool") rfl T.bool boot_bool' rfl) pa_nil))))))), ?_⟩
    exact ⟨_, rfl, _, _, _, _, _, rfl, rfl, .int _, kp_int K, _, rfl, iteT ⟨_, rfl, _, _, _, _, _, rfl, rfl, .int _, kp_intb K, _, rfl, q⟩⟩
def spOnce : Sp := fun vs H Q _ => ∃ (kd : Kd) (a : Addr) (m : Nat) (ord : List Int), vs = [.ref a, .int m] /\ HK kd H a (ord.map V.int) /\ m <= 10 /\ ord.Perm (ups m) /\ ∀ H', Same H H' -> Q (.bl true) H'
theorem same_lstO {K : W.Frag} {H : Hp} {a b : Addr} {p : List Int} (h1 : SqL K H a (p.map V.int)) (h2 : SqL K H b (p.map V.int)) {Q : VK} {out : Bool} (q : Q (.bl out) H) : rSame K out (.ref a) (.ref b) H Q := by
  refine ⟨a, b, _, _, 0, rfl, rfl, .inr ⟨h1, h2⟩, rfl, by decide, fun j x y e1 e2 => ?_, q⟩
  rw [e1] at e2
  cases e2
  rw [List.getElem?_map] at e1
  cases e : p[j]? with
  | none => rw [e] at e1; cases e1
  | some k => rw [e] at e1; cases e1; exact .flat rfl
theorem scOnce : FnScope ["thing", "many"] ["thing", "many"] (defScope sOnce) := ⟨rfl, rfl, rfl, by decide +kernel, rfl, by decide +kernel, by decide +kernel⟩
theorem ndk : (["number"] : List Str).Nodup := by decide +kernel
theorem d_once (T : Txt K mg) (S : Src K mg "is_each_once" sOnce ["thing", "many"]) (DI : Def P w K mg base 1 "is_whole" ["thing"] spWholeI) : Def P w K mg base 2 "is_each_once" ["thing", "many"] spOnce := by
  refine S.def scOnce (fun vs H Q E h => ?_) (fun f cdv A outer s H vs Q E hr h => ?_)
  · obtain ⟨_, _, _, _, rfl, _⟩ := h; rfl
  · obtain ⟨kd, a, m, ord, rfl, ha, h20, pm, q⟩ := h
    have ol : ord.length = m := by rw [pm.length_eq, ups_len]; omega
    refine ⟨_, pss_cons (ps_if (PW.pt (pw_or (pt_not (pt_val (pe_callB call_isTsF (by rfl) T.isi boot_isi (pa_cons (pv 0) (pa_cons (pe_tup (pa_cons (pe_bltn (v := .ty "list") rfl T.list boot_list' rfl) (pa_cons (pe_bltn (v := .ty "tuple") rfl T.tuple boot_tuple' rfl) pa_nil))) pa_nil)))))
        (pw_or1 (pt_not (pt_val (pe_callB (call_all rfl) (by rfl) T.all boot_all' (pa_cons (pe_comp (N' := ["number"]) (fr := [none]) (compOk_of (by rfl)) rfl (pi_seqK K kd (pv 0))
        (fun _ _ _ _ => pg_name (i := 0) ndk rfl (Or.inl rfl) (Or.inr rfl)) (fun _ _ _ _ => pifs_nil) (fun _ _ _ _ => pe_def DI hr rfl (pa_cons (pv 0) pa_nil))) pa_nil))))))) pss_never pss_nil)
      (pss_one (ps_ret (pe_cmpR (op_eqSK K (units66 hr)) (pe_callB (call_sortedK kd) (by rfl) T.sorted boot_sorted' (pa_cons (pv 0) pa_nil)) (pe_callTy (call_list_rng rfl) rfl T.list boot_list' (pa_cons (pe_callTy call_range1 rfl T.range boot_range' (pa_cons (pv 1) pa_nil)) pa_nil)) (nomark _)))), ?_⟩
    refine ⟨_, rfl, by show 2 <= sizeLine; decide, fun p1 hp1 => ?_⟩
    have s1 := Same.new (o := HO.tup [V.ty "list", V.ty "tuple"]) hp1
    have h1 : (upd H p1 (.tup [V.ty "list", V.ty "tuple"])) p1 = some (.tup [V.ty "list", V.ty "tuple"]) := upd_same
    generalize upd H p1 (.tup [V.ty "list", V.ty "tuple"]) = H1 at s1 h1 ⊢
    have ha1 := ha.same s1
    refine ⟨a, p1, _, ord.map V.int, _, true, rfl, SqT.of h1, ?_, fun us r => kit2 K r kd, _, rfl, iteF ?_⟩
    · cases kd with
      | l => exact .inl ⟨ha1, rfl⟩
      | t => exact .inr ⟨ha1, rfl⟩
    refine ⟨_, rfl, a, rfl, ⟨_, ha1.sq⟩, comp_seq (k := kd) (a := a) (xs := ord.map V.int) (fun σ => ∃ v, σ = [v]) (fun i ys H2 => Same H1 H2 /\ ys = (List.replicate i true).map V.bl) ⟨_, rfl⟩ ⟨Same.refl _, rfl⟩ (by rw [List.length_map]; exact ten_line (by omega)) (fun i ys H2 _ z => (ha1.same z.1).sq) ?_ ?_⟩
    · rintro i x ys σ H2 N hx ⟨u, rfl⟩ ⟨s2, rfl⟩ hN
      rw [List.getElem?_map] at hx
      obtain ⟨k, ek, rfl⟩ : ∃ k, ord[i]? = some k /\ V.int k = x := by
        cases e : ord[i]? with
        | none => rw [e] at hx; cases hx
        | some k => rw [e] at hx; exact ⟨k, rfl, Option.some.inj hx⟩
      dsimp only [gName, List.set]
      refine yesT ⟨_, rfl, k, rfl, ?_⟩
      refine hN _ _ _ ⟨_, rfl⟩ ⟨s2, ?_⟩ (by simp)
      rw [List.replicate_succ', List.map_append]
      rfl
    · rintro ys H2 ⟨s2, rfl⟩ p2 hp2
      have s3 := Same.new (o := HO.lst ((List.replicate (ord.map V.int).length true).map V.bl)) hp2
      have h3 : (upd H2 p2 (.lst ((List.replicate (ord.map V.int).length true).map V.bl))) p2 = some (.lst ((List.replicate (ord.map V.int).length true).map V.bl)) := upd_same
      generalize upd H2 p2 (.lst ((List.replicate (ord.map V.int).length true).map V.bl)) = H3 at s3 h3 ⊢
      have ha3 := ha1.same (s2.trans s3)
      have s13 := s1.trans (s2.trans s3)
      refine ⟨p2, _, rfl, SqL.of h3, _, rfl, ?_⟩
      have al : (List.replicate (ord.map V.int).length true).all id = true := by rw [List.all_eq_true]; intro b hb; exact (List.mem_replicate.mp hb).2
      rw [al]
      refine iteF ⟨_, rfl, a, ord, rfl, ha3.sq, by omega, fun l4 ms p4 u4 hl4 => ?_⟩
      have em : ms = ups m := perm_up (p4.trans pm) u4 ((ups_up _).imp fun h => by omega)
      subst em
      have s4 := Same.new (o := HO.lst ((ups m).map V.int)) hl4
      have h4 : (upd H3 l4 (.lst ((ups m).map V.int))) l4 = some (.lst ((ups m).map V.int)) := upd_same
      generalize upd H3 l4 (.lst ((ups m).map V.int)) = H4 at s4 h4 ⊢
      refine ⟨_, rfl, _, rfl, fun p hp => ⟨p, m, rfl, upd_same, by omega, fun l hl => ?_⟩⟩
      have s5 := (Same.new (o := HO.rng 0 m) hp).trans (Same.new (o := HO.lst (upN m)) hl)
      have h5 : (upd (upd H4 p (.rng 0 m)) l (.lst (upN m))) l = some (.lst ((ups m).map V.int)) := by rw [upd_same, upN_ups]
      generalize upd (upd H4 p (.rng 0 m)) l (.lst (upN m)) = H5 at s5 h5 ⊢
      exact same_lstO (SqL.of (s5 _ _ h4)) (SqL.of h5) (q _ (s13.trans (s4.trans s5)))
theorem scTold : FnScope ["web", "order"] ["web", "order"] (defScope sTold) := ⟨rfl, rfl, rfl, by decide +kernel, rfl, by decide +kernel, by decide +kernel⟩
theorem d_told (T : Txt K mg) (S : Src K mg "told_order" sTold ["web", "order"]) (DW : Def P w K mg base 1 "whole_pick" ["web"] spWPF) (DI : Def P w K mg base 2 "is_each_once" ["thing", "many"] spOnce) : Def P w K mg base 3 "told_order" ["web", "order"] (spTold K) := by
  refine S.def scTold (fun vs H Q E h => ?_) (fun f cdv A outer s H vs Q E hr h => ?_)
  · obtain ⟨_, _, _, _, _, _, rfl, _⟩ := h; rfl
  · obtain ⟨kd, wv, o, n, ps, ord, rfl, W, h8, alt, q⟩ := h
    refine ⟨_, pss_cons (ps_if (pt_cmpR op_isN (pv 1) pe_non (nomark _)) (pss_one (ps_ret (pe_def DW (hr.mono (by omega)) rfl (pa_cons (pv 0) pa_nil)))) pss_nil)
      (pss_cons (ps_if (pt_not (pt_val (pe_def DI hr rfl (pa_cons (pv 1) (pa_cons (pe_callB (call_lenK K) (by rfl) T.len PySem.boot_len (pa_cons (pe_ix (ix_tupK K) (pv 0) pe_int (fun _ _ => rfl)) pa_nil)) pa_nil))))) pss_never pss_nil)
      (pss_one (ps_ret (pe_callTy call_tupleF rfl T.tuple boot_tuple' (pa_cons (pv 1) pa_nil))))), ?_⟩
    rcases alt with ⟨rfl, rfl⟩ | ⟨a, rfl, ha, pm⟩
    · refine ⟨_, rfl, rfl, _, rfl, ?_⟩
      rw [decide_eq_true rfl]
      exact iteT ⟨_, rfl, wv, n, ps, rfl, W, h8, fun t H' s h => q t H' s h⟩
    · obtain ⟨c, d, xs, rfl, hc, hd, ht⟩ := W.ex
      have xl : xs.length = ps.length := Paired.length ht
      have i1 : atI ([.int n, .ref d] : List V) 1 = some (.ref d) := atI_nat (j := 1) rfl
      refine ⟨_, rfl, rfl, _, rfl, ?_⟩
      rw [decide_eq_false (fun z => nomatch z)]
      refine iteF ⟨_, rfl, _, rfl, c, _, _, _, rfl, rfl, SqT.of hc, i1, d, xs, rfl, .inr (SqT.of hd), kd, a, ps.length, ord, by rw [xl]; rfl, ha, by omega, pm, fun H1 s1 => ⟨_, rfl, iteF ?_⟩⟩
      have ha6 := ha.same s1
      refine ⟨_, rfl, a, ord.map V.int, rfl, ?_⟩
      cases kd with
      | l => exact .inl ⟨SqL.of ha6, fun t7 o7 oc od ht7 => q t7 _ (s1.trans (Same.new ht7)) (FzT.new oc od)⟩
      | t => exact .inr ⟨FzT.sq ha6, q a _ s1 ha6⟩
end
def ixOf : List Int -> Int -> Nat
  | [], _ => 0
  | x :: l, k => if x = k then 0 else ixOf l k + 1
theorem ix_at : ∀ {l : List Int} {k : Int}, k ∈ l -> l[ixOf l k]? = some k
  | x :: l, k, h => by
    unfold ixOf
    by_cases c : x = k
    · rw [if_pos c, c]; rfl
    · rw [if_neg c]
      exact ix_at ((List.mem_cons.mp h).resolve_left fun z => c z.symm)
theorem ix_no : ∀ {l : List Int} {k : Int} (m : Nat), m < ixOf l k -> l[m]? ≠ some k
  | [], _, m, h => by unfold ixOf at h; omega
  | x :: l, k, m, h => by
    unfold ixOf at h
    by_cases c : x = k
    · rw [if_pos c] at h; omega
    · rw [if_neg c] at h
      cases m with
      | zero => intro z; exact c (Option.some.inj z)
      | succ m => exact ix_no m (by omega)
theorem cut_pre (xs : List V) {j : Nat} : cutV xs none (some (j : Int)) = xs.take j := by
  unfold cutV
  rw [show HT.sIx xs.length 0 none = 0 from rfl, HT.sIx_nat]
  rw [List.drop_zero, Nat.sub_zero]
  by_cases h : j <= xs.length
  · rw [Nat.min_eq_left h]
  · rw [Nat.min_eq_right (by omega), List.take_length, List.take_of_length_le (by omega)]
theorem in_ints (c : Int) : ∀ ties : List Int, inV (.int c) (ties.map V.int) = decide (c ∈ ties)
  | [] => rfl
  | x :: l => by
    have ih := in_ints c l
    unfold inV at ih ⊢
    rw [List.map_cons, List.any_cons, ih]
    show (x == c || decide (c ∈ l)) = decide (c ∈ x :: l)
    rw [Bool.eq_iff_iff]
    simp only [Bool.or_eq_true, beq_iff_eq, decide_eq_true_iff, List.mem_cons]
    exact ⟨fun h => h.imp Eq.symm id, fun h => h.imp Eq.symm id⟩
theorem all_flat (l : List Int) : (l.map V.int).all flatV = true := by
  rw [List.all_eq_true]
  intro x hx
  obtain ⟨_, _, rfl⟩ := List.mem_map.mp hx
  rfl
def dropG (t : List Int) (g : Int) : List Int := t.filter fun k => decide (k ≠ g)
def apart (hs : List Int) (p : Int × Int) : Bool := !decide (at0 hs p.1 = at0 hs p.2)
def acB (n : Int) (ps : List (Int × Int)) (t : List Int) (g c : Int) : Bool := apart (hdF ps (ups n) (dropG t g)) (tieN ps c)
def swOf (n : Int) (ps : List (Int × Int)) (t : List Int) (g : Int) : List (Int × Int) := ((ups ps.length).filter (acB n ps t g)).map fun c => (g, c)
def swP (n : Int) (ps : List (Int × Int)) (t : List Int) : List (Int × Int) := t.flatMap (swOf n ps t)
def spAcross (K : W.Frag) : Sp := fun vs H Q _ => ∃ (wv : V) (hl : Addr) (n : Int) (ps : List (Int × Int)) (hs : List Int) (k : Int), vs = [wv, .ref hl, .int k] /\ WebAt H wv n ps /\ H hl = some (.lst (hs.map V.int)) /\ (hs.length : Int) = n /\ (∀ p ∈ ps, InN n p) /\ (0 <= k /\ k < ps.length) /\ Q (.bl (apart hs (tieN ps k))) H
def spSwaps (K : W.Frag) : Sp := fun vs H Q _ => ∃ (wv : V) (tr : Addr) (n : Int) (ps : List (Int × Int)) (t : List Int), vs = [wv, .ref tr] /\ WebAt H wv n ps /\ WebOk n ps /\ SqT K H tr (t.map V.int) /\ Ks ps.length t /\ t.length <= 8 /\
  ∀ g zs H', Same H H' -> H' g = some (.lst zs) -> Paired (TieAt H') zs (swP n ps t) -> Q (.ref g) H'
def spFirst (K : W.Frag) : Sp := fun vs H Q _ => ∃ (ta tl : Addr) (ord ties : List Int) (k : Int), vs = [.ref ta, .int k, .ref tl] /\ FzT H ta (ord.map V.int) /\ H tl = some (.lst (ties.map V.int)) /\ k ∈ ord /\ ord.length <= 8 /\
  ∀ H', Same H H' -> Q (.bl (!((ord.take (ixOf ord k)).any fun c => decide (c ∈ ties)))) H'
def spIsS (K : W.Frag) (f : Int × Int -> Int) (g : Int × Int -> Int) : Sp := fun vs H Q _ => ∃ (ta sl : Addr) (ord : List Int) (k : Int) (zs : List V) (S : List (Int × Int)), vs = [.ref ta, .ref sl, .int k] /\ FzT H ta (ord.map V.int) /\ H sl = some (.lst zs) /\ Paired (TieAt H) zs S /\ S.length <= 64 /\ k ∈ ord /\ ord.length <= 8 /\
  ∀ H', Same H H' -> Q (.bl (!((ord.take (ixOf ord k)).any fun c => decide (c ∈ (S.filter fun p => decide (f p = k)).map g)))) H'
theorem sw_len (n : Int) (ps : List (Int × Int)) (t : List Int) (h8 : ps.length <= 8) (g : Int) : (swOf n ps t g).length <= 8 := by
  unfold swOf
  rw [List.length_map]
  have := List.length_filter_le (acB n ps t g) (ups ps.length)
  rw [ups_len] at this
  omega
theorem flat8 {α β : Type} (f : α -> List β) (h : ∀ x, (f x).length <= 8) : ∀ l : List α, (l.flatMap f).length <= 8 * l.length
  | [] => by simp
  | x :: l => by
    rw [List.flatMap_cons, List.length_append, List.length_cons]
    have := h x
    have := flat8 f h l
    omega
theorem ties_putl {H : Hp} {g : Addr} {o : HO} {zs ys : List V} {ps : List (Int × Int)} (h : Paired (TieAt H) ys ps) (hg : H g = some (.lst zs)) : Paired (TieAt (upd H g o)) ys ps :=
  L2.Paired.mapP h fun _ _ ⟨a, e1, e2⟩ => ⟨a, e1, by rw [upd_ne (ne_of e2 hg (fun z => nomatch z))]; exact e2⟩
section
variable {P : Program} {w : World} {K : W.Frag} {mg : Str -> Option Value} {base : Heap}
theorem scAcross : FnScope ["web", "heads", "k", "tie"] ["web", "heads", "k"] (defScope sAcross) := ⟨rfl, rfl, rfl, by decide +kernel, rfl, by decide +kernel, by decide +kernel⟩
theorem d_across (S : Src K mg "leads_across" sAcross ["web", "heads", "k"]) : Def P w K mg base 1 "leads_across" ["web", "heads", "k"] (spAcross K) := by
  refine S.def scAcross (fun vs H Q E h => ?_) (fun f cdv A outer s H vs Q E hr h => ?_)
  · obtain ⟨_, _, _, _, _, _, rfl, _⟩ := h; rfl
  · obtain ⟨wv, hl, n, ps, hs, k, rfl, W, hh, hn, hb, ⟨k0, kl⟩, q⟩ := h
    obtain ⟨c, d, xs, rfl, hc, hd, ht⟩ := W.ex
    refine ⟨_, pss_cons (ps_set (i := 3) scAcross.nd rfl (Or.inl rfl) (pe_ix (ix_tupK K) (pe_ix (ix_tupK K) (pv 0) pe_int (fun _ _ => rfl)) (pv 2) (fun _ _ => rfl)))
      (pss_one (ps_ret (pe_cmpR op_ne (pe_ix (ix_listK K) (pv 1) (pe_ix (ix_tupK K) (pv 3) pe_int (fun _ _ => rfl)) (fun _ _ => rfl)) (pe_ix (ix_listK K) (pv 1) (pe_ix (ix_tupK K) (pv 3) pe_int (fun _ _ => rfl)) (fun _ _ => rfl)) (nomark _)))), ?_⟩
    obtain ⟨tc, et, htc⟩ := at_tie ht k0 kl
    obtain ⟨b1, b2, b3, b4⟩ := tieN_in hb k0 kl
    have i1 : atI ([.int n, .ref d] : List V) 1 = some (.ref d) := atI_nat (j := 1) rfl
    have t0 : atI ([.int (tieN ps k).1, .int (tieN ps k).2] : List V) 0 = some (.int (tieN ps k).1) := atI_nat (j := 0) rfl
    have t1 : atI ([.int (tieN ps k).1, .int (tieN ps k).2] : List V) 1 = some (.int (tieN ps k).2) := atI_nat (j := 1) rfl
    have a0 := at_int (l := hs) (i := (tieN ps k).1) b1 (by omega)
    have a1 := at_int (l := hs) (i := (tieN ps k).2) b3 (by omega)
    refine ⟨_, rfl, c, _, _, _, rfl, rfl, SqT.of hc, i1, _, rfl, d, _, _, _, rfl, rfl, SqT.of hd, et, ?_⟩
    refine ⟨_, rfl, _, rfl, tc, _, _, _, rfl, rfl, SqT.of htc, t0, hl, _, _, _, rfl, rfl, SqL.of hh, a0, _, rfl, _, rfl, tc, _, _, _, rfl, rfl, SqT.of htc, t1, hl, _, _, _, rfl, rfl, SqL.of hh, a1, rfl, ?_⟩
    rw [dec_int]
    exact q
theorem scFirst : FnScope ["order", "k", "ties"] ["order", "k", "ties"] (defScope sFirst) := ⟨rfl, rfl, rfl, by decide +kernel, rfl, by decide +kernel, by decide +kernel⟩
theorem ndtt : (["tie", "ties"] : List Str).Nodup := by decide +kernel
theorem boot_any' : bootBuiltins "any" = some (.builtin "any") := by first | rfl | decide +kernel
theorem d_first (hany : mg "any" = none) (S : Src K mg "is_first" sFirst ["order", "k", "ties"]) : Def P w K mg base 1 "is_first" ["order", "k", "ties"] (spFirst K) := by
  refine S.def scFirst (fun vs H Q E h => ?_) (fun f cdv A outer s H vs Q E hr h => ?_)
  · obtain ⟨_, _, _, _, _, rfl, _⟩ := h; rfl
  · obtain ⟨ta, tl, ord, ties, k, rfl, hta, htl, hk, ol, q⟩ := h
    refine ⟨_, pss_one (ps_ret (pe_not (pe_callB (call_any rfl) (by rfl) hany boot_any' (pa_cons (pe_comp (N' := ["tie", "ties"]) (fr := [none, some 2]) (compOk_of (by rfl)) rfl (pi_seqK K .t (pe_slice (sl_tupK K) (pv 0) po_none (po_some (pe_bmF PySem.F.plainAttrs_tuple PySem.F.slot_tuple_index PySem.F.type_tuple_index mt_tindex (pv 0) (pa_cons (pv 1) pa_nil)))))
      (fun _ _ _ _ => pg_name (i := 0) ndtt rfl (Or.inl rfl) (Or.inr rfl)) (fun _ _ _ _ => pifs_nil) (fun _ _ _ _ => pe_cmpR (r := rIn K false) op_in_seq (pv 0) (pv 1) rfl)) pa_nil)))), ?_⟩
    have jl : ixOf ord k < ord.length := (List.getElem?_eq_some_iff.mp (ix_at hk)).1
    refine ⟨_, rfl, _, rfl, ⟨ta, _, rfl, hta⟩, _, rfl, ta, ord, k, ixOf ord k, rfl, rfl, hta.sq, ix_at hk, fun m hm => ix_no m hm, _, rfl, ta, _, rfl, hta.sq, ?_, fun p hp => ?_⟩
    · rintro ⟨_, z⟩
      rw [HT.sIx_nat, List.length_map] at z
      omega
    rw [cut_pre, <- List.map_take]
    have s1 := Same.new (o := HO.tup ((ord.take (ixOf ord k)).map V.int)) hp
    have h1 : (upd H p (.tup ((ord.take (ixOf ord k)).map V.int))) p = some (.tup ((ord.take (ixOf ord k)).map V.int)) := upd_same
    generalize upd H p (.tup ((ord.take (ixOf ord k)).map V.int)) = H1 at s1 h1 ⊢
    have al0 : (ord.take (ixOf ord k)).length <= 8 := by rw [List.length_take]; omega
    generalize ord.take (ixOf ord k) = ah at h1 q al0
    have al : ah.length <= 8 := al0
    refine ⟨p, rfl, ⟨_, SqT.of h1⟩, comp_seq (k := .t) (a := p) (xs := ah.map V.int) (fun σ => ∃ v, σ = [v, some (.ref tl)]) (fun i ys H2 => H2 = H1 /\ ys = ((ah.take i).map fun c => decide (c ∈ ties)).map V.bl) ⟨_, rfl⟩ ⟨rfl, rfl⟩ (by rw [List.length_map]; exact ten_line (by omega)) (fun i ys H2 _ z => by rw [z.1]; exact SqT.of h1) ?_ ?_⟩
    · rintro i x ys σ H2 N hx ⟨u, rfl⟩ ⟨rfl, rfl⟩ hN
      obtain ⟨c, ec, rfl⟩ := get_int' hx
      dsimp only [gName, List.set]
      refine yesT ⟨_, rfl, _, rfl, tl, ties.map V.int, rfl, .inl (SqL.of (s1 _ _ htl)), rfl, all_flat _, ?_⟩
      rw [if_neg (by decide), in_ints]
      refine hN _ _ _ ⟨_, rfl⟩ ⟨rfl, ?_⟩ (by simp)
      rw [take_succ_of ec, List.map_append, List.map_append]
      rfl
    · rintro ys H2 ⟨rfl, rfl⟩ p2 hp2
      rw [List.length_map, List.take_length]
      refine ⟨p2, _, rfl, SqL.of upd_same, ?_⟩
      have e : (ah.map fun c => decide (c ∈ ties)).any id = ah.any fun c => decide (c ∈ ties) := by rw [List.any_map]; rfl
      rw [e]
      exact ⟨_, rfl, q _ (s1.trans (Same.new hp2))⟩
theorem scIsIn : FnScope ["order", "swaps", "k"] ["order", "swaps", "k"] (defScope sIsIn) := ⟨rfl, rfl, rfl, by decide +kernel, rfl, by decide +kernel, by decide +kernel⟩
theorem scIsOut : FnScope ["order", "swaps", "k"] ["order", "swaps", "k"] (defScope sIsOut) := ⟨rfl, rfl, rfl, by decide +kernel, rfl, by decide +kernel, by decide +kernel⟩
theorem ndhok : (["held", "other", "k"] : List Str).Nodup := by decide +kernel
theorem line64 {n : Nat} (h : n <= 64) : n < sizeLine := Nat.lt_of_le_of_lt h (by decide)
theorem d_isin (S : Src K mg "is_inner" sIsIn ["order", "swaps", "k"]) (DF : Def P w K mg base 1 "is_first" ["order", "k", "ties"] (spFirst K)) : Def P w K mg base 2 "is_inner" ["order", "swaps", "k"] (spIsS K (·.1) (·.2)) := by
  refine S.def scIsIn (fun vs H Q E h => ?_) (fun f cdv A outer s H vs Q E hr h => ?_)
  · obtain ⟨_, _, _, _, _, _, rfl, _⟩ := h; rfl
  · obtain ⟨ta, sl, ord, k, zs, SW, rfl, hta, hsl, hz, sl64, hk, ol, q⟩ := h
    have zl : zs.length = SW.length := Paired.length hz
    refine ⟨_, pss_one (ps_ret (pe_def DF hr rfl (pa_cons (pv 0) (pa_cons (pv 2) (pa_cons (pe_comp (N' := ["held", "other", "k"]) (fr := [none, none, some 2]) (compOk_of (by rfl)) rfl (pi_seqK K .l (pv 1))
      (g := gTup K 2 (gCons (gName 0) (gCons (gName 1) gNil))) (fun _ _ _ _ => pg_tupK K 2 rfl (pgs_cons (pg_name (i := 0) ndhok rfl (Or.inl rfl) (Or.inr rfl)) (pgs_cons (pg_name (i := 1) ndhok rfl (Or.inl rfl) (Or.inr rfl)) pgs_nil)))
      (fun _ _ _ _ => pifs_one (pt_cmpR op_eq (pv 0) (pv 2) (nomark _))) (fun _ _ _ _ => pv 1)) pa_nil))))), ?_⟩
    refine ⟨_, rfl, _, rfl, _, rfl, sl, rfl, ⟨_, SqL.of hsl⟩, comp_seq (k := .l) (a := sl) (xs := zs) (fun σ => ∃ u v, σ = [u, v, some (.int k)]) (fun i ys H2 => H2 = H /\ ys = (((SW.take i).filter fun p => decide (p.1 = k)).map (·.2)).map V.int) ⟨_, _, rfl⟩ ⟨rfl, rfl⟩ (line64 (by omega)) (fun i ys H2 _ z => by rw [z.1]; exact SqL.of hsl) ?_ ?_⟩
    · rintro i x ys σ H2 N hx ⟨u, v, rfl⟩ ⟨rfl, rfl⟩ hN
      obtain ⟨p, ep, b, rfl, hb⟩ := Paired.at hz hx
      refine ⟨b, _, rfl, SqT.of hb, rfl, _, _, rfl, _, _, rfl, rfl, ?_⟩
      dsimp only [gName, List.set]
      refine ⟨_, rfl, _, rfl, rfl, _, rfl, ?_⟩
      rw [dec_int]
      refine ite2 (fun z => ⟨_, rfl, ?_⟩) (fun z => ?_)
      · refine hN _ _ _ ⟨_, _, rfl⟩ ⟨rfl, ?_⟩ (by simp)
        rw [filt_take _ ep, z]
        simp
      · refine hN _ _ _ ⟨_, _, rfl⟩ ⟨rfl, ?_⟩ (by simp)
        rw [filt_take _ ep, Bool.eq_false_iff.mpr z]
        simp
    · rintro ys H2 ⟨rfl, rfl⟩ p2 hp2
      rw [zl, List.take_length]
      have s2 := Same.new (o := HO.lst (((SW.filter fun p => decide (p.1 = k)).map (·.2)).map V.int)) hp2
      exact ⟨ta, p2, ord, _, k, rfl, hta.same s2, upd_same, hk, ol, fun H3 s3 => q H3 (s2.trans s3)⟩
theorem d_isout (S : Src K mg "is_outer" sIsOut ["order", "swaps", "k"]) (DF : Def P w K mg base 1 "is_first" ["order", "k", "ties"] (spFirst K)) : Def P w K mg base 2 "is_outer" ["order", "swaps", "k"] (spIsS K (·.2) (·.1)) := by
  refine S.def scIsOut (fun vs H Q E h => ?_) (fun f cdv A outer s H vs Q E hr h => ?_)
  · obtain ⟨_, _, _, _, _, _, rfl, _⟩ := h; rfl
  · obtain ⟨ta, sl, ord, k, zs, SW, rfl, hta, hsl, hz, sl64, hk, ol, q⟩ := h
    have zl : zs.length = SW.length := Paired.length hz
    refine ⟨_, pss_one (ps_ret (pe_def DF hr rfl (pa_cons (pv 0) (pa_cons (pv 2) (pa_cons (pe_comp (N' := ["held", "other", "k"]) (fr := [none, none, some 2]) (compOk_of (by rfl)) rfl (pi_seqK K .l (pv 1))
      (g := gTup K 2 (gCons (gName 0) (gCons (gName 1) gNil))) (fun _ _ _ _ => pg_tupK K 2 rfl (pgs_cons (pg_name (i := 0) ndhok rfl (Or.inl rfl) (Or.inr rfl)) (pgs_cons (pg_name (i := 1) ndhok rfl (Or.inl rfl) (Or.inr rfl)) pgs_nil)))
      (fun _ _ _ _ => pifs_one (pt_cmpR op_eq (pv 1) (pv 2) (nomark _))) (fun _ _ _ _ => pv 0)) pa_nil))))), ?_⟩
    refine ⟨_, rfl, _, rfl, _, rfl, sl, rfl, ⟨_, SqL.of hsl⟩, comp_seq (k := .l) (a := sl) (xs := zs) (fun σ => ∃ u v, σ = [u, v, some (.int k)]) (fun i ys H2 => H2 = H /\ ys = (((SW.take i).filter fun p => decide (p.2 = k)).map (·.1)).map V.int) ⟨_, _, rfl⟩ ⟨rfl, rfl⟩ (line64 (by omega)) (fun i ys H2 _ z => by rw [z.1]; exact SqL.of hsl) ?_ ?_⟩
    · rintro i x ys σ H2 N hx ⟨u, v, rfl⟩ ⟨rfl, rfl⟩ hN
      obtain ⟨p, ep, b, rfl, hb⟩ := Paired.at hz hx
      refine ⟨b, _, rfl, SqT.of hb, rfl, _, _, rfl, _, _, rfl, rfl, ?_⟩
      dsimp only [gName, List.set]
      refine ⟨_, rfl, _, rfl, rfl, _, rfl, ?_⟩
      rw [dec_int]
      refine ite2 (fun z => ⟨_, rfl, ?_⟩) (fun z => ?_)
      · refine hN _ _ _ ⟨_, _, rfl⟩ ⟨rfl, ?_⟩ (by simp)
        rw [filt_take _ ep, z]
        simp
      · refine hN _ _ _ ⟨_, _, rfl⟩ ⟨rfl, ?_⟩ (by simp)
        rw [filt_take _ ep, Bool.eq_false_iff.mpr z]
        simp
    · rintro ys H2 ⟨rfl, rfl⟩ p2 hp2
      rw [zl, List.take_length]
      have s2 := Same.new (o := HO.lst (((SW.filter fun p => decide (p.2 = k)).map (·.1)).map V.int)) hp2
      exact ⟨ta, p2, ord, _, k, rfl, hta.same s2, upd_same, hk, ol, fun H3 s3 => q H3 (s2.trans s3)⟩
theorem scSwaps : FnScope ["web", "tree", "swaps", "held", "heads"] ["web", "tree"] (defScope sSwaps) := ⟨rfl, rfl, rfl, by decide +kernel, rfl, by decide +kernel, by decide +kernel⟩
theorem ndkh : (["k", "held"] : List Str).Nodup := by decide +kernel
theorem ndohhw : (["other", "heads", "held", "web"] : List Str).Nodup := by decide +kernel
theorem d_swaps (T : Txt K mg) (S : Src K mg "swaps_of" sSwaps ["web", "tree"]) (DH : Def P w K mg base 1 "heads_of" ["web", "pick"] (spHeads K)) (DW : Def P w K mg base 1 "whole_pick" ["web"] spWPF) (DA : Def P w K mg base 1 "leads_across" ["web", "heads", "k"] (spAcross K)) : Def P w K mg base 2 "swaps_of" ["web", "tree"] (spSwaps K) := by
  refine S.def scSwaps (fun vs H Q E h => ?_) (fun f cdv A outer s H vs Q E hr h => ?_)
  · obtain ⟨_, _, _, _, _, rfl, _⟩ := h; rfl
  · obtain ⟨wv, tr, n, ps, t, rfl, W, ok, htr, ks, tl, q⟩ := h
    obtain ⟨⟨n1, n9⟩, hb, h8⟩ := id ok
    refine ⟨_, pss_cons (ps_set (i := 2) scSwaps.nd rfl (Or.inl rfl) (pe_lst pa_nil))
      (pss_cons (ps_for PassesOwn.never rfl (pi_seqK K .t (pv 1)) (pg_name (i := 3) scSwaps.nd rfl (Or.inr rfl))
        (pss_cons (ps_set (i := 4) scSwaps.nd rfl (Or.inr rfl) (pe_def DH hr rfl (pa_cons (pv 0) (pa_cons (pe_callTy (call_tuple_ofK K) rfl T.tuple boot_tuple' (pa_cons (pe_comp (N' := ["k", "held"]) (fr := [none, some 3]) (compOk_of (by rfl)) rfl (pi_seqK K .t (pv 1))
          (fun _ _ _ _ => pg_name (i := 0) ndkh rfl (Or.inl rfl) (Or.inr rfl)) (fun _ _ _ _ => pifs_one (pt_cmpR op_ne (pv 0) (pv 1) (nomark _))) (fun _ _ _ _ => pv 0)) pa_nil)) pa_nil))))
        (pss_one (ps_expr (pe_bm PySem.F.plainAttrs_list PySem.F.slot_list_extend PySem.F.type_list_extend mt_extend (pv 2) (pa_cons (pe_comp (N' := ["other", "heads", "held", "web"]) (fr := [none, some 4, some 3, some 0]) (compOk_of (by rfl)) rfl (pi_seqK K .t (pe_def DW hr rfl (pa_cons (pv 0) pa_nil)))
          (fun _ _ _ _ => pg_name (i := 0) ndohhw rfl (Or.inl rfl) (Or.inr rfl)) (fun _ _ _ _ => pifs_one (pt_val (pe_def DA hr rfl (pa_cons (pv 3) (pa_cons (pv 1) (pa_cons (pv 0) pa_nil)))))) (fun _ _ _ _ => pe_tup (pa_cons (pv 2) (pa_cons (pv 0) pa_nil)))) pa_nil))))))
      (pss_one (ps_ret (pv 2)))), ?_⟩
    refine ⟨Nat.zero_le _, fun g hg => ?_⟩
    have s0 := Same.new (o := HO.lst []) hg
    have g0 : (upd H g (.lst [])) g = some (.lst []) := upd_same
    generalize upd H g (.lst []) = H1 at s0 g0 ⊢
    refine ⟨_, rfl, tr, rfl, ⟨_, s0.tup htr⟩, for_seq (k := .t) (K := K) (a := tr) (xs := t.map V.int) (fun i σ H2 => (∃ u v, σ = [some wv, some (.ref tr), some (.ref g), u, v]) /\ Same H H2 /\ ∃ zs, H2 g = some (.lst zs) /\ Paired (TieAt H2) zs ((t.take i).flatMap (swOf n ps t)))
      ⟨⟨_, _, rfl⟩, s0, [], g0, .nil⟩ (fun i σ H2 _ z => z.2.1.tup htr) ?_ ?_⟩
    · rintro i x σ H2 hx ⟨⟨u, v, rfl⟩, sm, zs, hz, pz⟩
      obtain ⟨g1, eg1, rfl⟩ := get_int' hx
      dsimp only [gName, List.set]
      refine ⟨_, rfl, _, rfl, tr, rfl, ⟨_, sm.tup htr⟩, comp_seq (k := .t) (a := tr) (xs := t.map V.int) (fun σ => ∃ v, σ = [v, some (.int g1)]) (fun i ys H3 => H3 = H2 /\ ys = ((t.take i).filter fun k => decide (k ≠ g1)).map V.int) ⟨_, rfl⟩ ⟨rfl, rfl⟩ (by rw [List.length_map]; exact ten_line (by omega)) (fun i ys H3 _ z => by rw [z.1]; exact sm.tup htr) ?_ ?_⟩
      · rintro i x ys σ H3 N hx ⟨u, rfl⟩ ⟨rfl, rfl⟩ hN
        obtain ⟨k, ek, rfl⟩ := get_int' hx
        dsimp only [gName, List.set]
        refine ⟨_, rfl, _, rfl, rfl, _, rfl, ?_⟩
        have e1 : (!decide (V.int k = V.int g1)) = decide (k ≠ g1) := by rw [dec_int]; simp
        rw [e1]
        refine ite2 (fun z => ⟨_, rfl, ?_⟩) (fun z => ?_)
        · refine hN _ _ _ ⟨_, rfl⟩ ⟨rfl, ?_⟩ (by simp)
          rw [filt_take _ ek, z]
          simp
        · refine hN _ _ _ ⟨_, rfl⟩ ⟨rfl, ?_⟩ (by simp)
          rw [filt_take _ ek, Bool.eq_false_iff.mpr z]
          simp
      · rintro ys H3 ⟨rfl, rfl⟩ p3 hp3
        rw [List.length_map, List.take_length]
        have ed : (t.filter fun k => decide (k ≠ g1)) = dropG t g1 := rfl
        rw [ed]
        refine ⟨p3, _, rfl, .inl ⟨SqL.of upd_same, fun t4 ht4 => ?_⟩⟩
        have s34 := (Same.new (o := HO.lst ((dropG t g1).map V.int)) hp3).trans (Same.new (o := HO.tup ((dropG t g1).map V.int)) ht4)
        have h4 : (upd (upd H3 p3 (.lst ((dropG t g1).map V.int))) t4 (.tup ((dropG t g1).map V.int))) t4 = some (.tup ((dropG t g1).map V.int)) := upd_same
        generalize upd (upd H3 p3 (.lst ((dropG t g1).map V.int))) t4 (.tup ((dropG t g1).map V.int)) = H4 at s34 h4 ⊢
        have kd : Ks ps.length (dropG t g1) := fun k hk => ks k (List.mem_filter.mp hk).1
        refine ⟨wv, t4, n, ps, dropG t g1, rfl, W.same (sm.trans s34), n1, n9, hb, SqT.of h4, kd, fun l5 H5 s5 h5 => ?_⟩
        have sm5 := (sm.trans s34).trans s5
        have hz5 := (s34.trans s5) _ _ hz
        refine ⟨_, rfl, .inl ⟨rfl, _, SqL.of hz5⟩, _, rfl, wv, n, ps, rfl, W.same sm5, h8, fun t6 H6 s6 h6 => ?_⟩
        refine ⟨t6, rfl, ⟨_, h6.sq⟩, comp_seq (k := .t) (a := t6) (xs := (ups ps.length).map V.int) (fun σ => ∃ v, σ = [v, some (.ref l5), some (.int g1), some wv]) (fun i ys H7 => Same H6 H7 /\ Paired (TieAt H7) ys ((((ups ps.length).take i).filter (acB n ps t g1)).map fun c => (g1, c))) ⟨_, rfl⟩ ⟨Same.refl _, .nil⟩ (by rw [List.length_map, ups_len]; exact ten_line (by omega)) (fun i ys H7 _ z => (h6.same z.1).sq) ?_ ?_⟩
        · rintro i x ys σ H7 N hx ⟨u, rfl⟩ ⟨s7, hy⟩ hN
          obtain ⟨c, ec, rfl⟩ := get_int' hx
          have cm := mem_ups.mp (List.mem_of_getElem? ec)
          dsimp only [gName, List.set]
          refine ⟨_, rfl, _, rfl, _, rfl, wv, l5, n, ps, hdF ps (ups n) (dropG t g1), c, rfl, W.same (sm5.trans (s6.trans s7)), s7 _ _ (s6 _ _ h5), by rw [hdF_len, ups_len]; omega, hb, ⟨cm.1, cm.2⟩, _, rfl, ?_⟩
          have eac : apart (hdF ps (ups n) (dropG t g1)) (tieN ps c) = acB n ps t g1 c := rfl
          rw [eac]
          refine ite2 (fun z => ⟨_, rfl, _, rfl, by show 2 <= sizeLine; decide, fun b hb8 => ?_⟩) (fun z => ?_)
          · have s8 := Same.new (o := HO.tup [.int g1, .int c]) hb8
            refine hN _ _ _ ⟨_, rfl⟩ ⟨s7.trans s8, ?_⟩ (by simp)
            rw [filt_take _ ec, if_pos z, List.map_append]
            exact L2.Paired.snoc (ties_same hy s8) ⟨b, rfl, upd_same⟩
          · refine hN _ _ _ ⟨_, rfl⟩ ⟨s7, ?_⟩ (by simp)
            rw [filt_take _ ec, if_neg z, List.append_nil]
            exact hy
        · rintro ys H7 ⟨s7, hy⟩ p8 hp8
          rw [List.length_map, List.take_length] at hy
          have hy : Paired (TieAt H7) ys (swOf n ps t g1) := hy
          have s8 := Same.new (o := HO.lst ys) hp8
          have hz8 := s8 _ _ (s7 _ _ (s6 _ _ hz5))
          have h8' : (upd H7 p8 (.lst ys)) p8 = some (.lst ys) := upd_same
          have hy8 := ties_same hy s8
          have pz8 := ties_same pz (s34.trans (s5.trans (s6.trans (s7.trans s8))))
          have sm8 := sm5.trans (s6.trans (s7.trans s8))
          generalize upd H7 p8 (.lst ys) = H8 at hz8 h8' hy8 pz8 sm8 ⊢
          have ly : ys.length <= 8 := by rw [Paired.length hy8]; exact sw_len n ps t h8 g1
          have lz : zs.length <= 64 := by
            have e1 := Paired.length pz8
            have e2 := flat8 (swOf n ps t) (sw_len n ps t h8) (t.take i)
            rw [List.length_take] at e2
            omega
          refine ⟨g, p8, zs, ys, rfl, rfl, hz8, h8', Nat.le_of_lt (line300 (by omega)), ?_⟩
          refine ⟨⟨_, _, rfl⟩, put_fresh sm8 hg, zs ++ ys, upd_same, ?_⟩
          rw [take_succ_of eg1, List.flatMap_append, List.flatMap_cons, List.flatMap_nil, List.append_nil]
          exact pair_app (ties_putl pz8 hz8) (ties_putl hy8 hz8)
    · rintro σ H2 ⟨⟨u, v, rfl⟩, sm, zs, hz, pz⟩
      rw [List.length_map, List.take_length] at pz
      exact ⟨_, rfl, q g zs H2 sm hz pz⟩
end
def innP (n : Int) (ps : List (Int × Int)) (t ord : List Int) : List Int := t.filter fun k => !((ord.take (ixOf ord k)).any fun c => decide (c ∈ ((swP n ps t).filter fun p => decide (p.1 = k)).map (·.2)))
def besP (ps : List (Int × Int)) (t : List Int) : List Int := (ups ps.length).filter fun k => !decide (k ∈ t)
def outP (n : Int) (ps : List (Int × Int)) (t ord : List Int) : List Int := (besP ps t).filter fun k => !((ord.take (ixOf ord k)).any fun c => decide (c ∈ ((swP n ps t).filter fun p => decide (p.2 = k)).map (·.1)))
def spTies (K : W.Frag) (f : Int -> List (Int × Int) -> List Int -> List Int -> List Int) : Sp := fun vs H Q _ => ∃ (kd : Kd) (wv o : V) (tr : Addr) (n : Int) (ps : List (Int × Int)) (t ord : List Int), vs = [wv, .ref tr, o] /\ WebAt H wv n ps /\ WebOk n ps /\ SqT K H tr (t.map V.int) /\ Ks ps.length t /\ t.length <= 8 /\ OrdAt kd H o ps.length ord /\
  ∀ g H', Same H H' -> H' g = some (.tup ((f n ps t ord).map V.int)) -> Q (.ref g) H'
section
variable {P : Program} {w : World} {K : W.Frag} {mg : Str -> Option Value} {base : Heap}
theorem scInner : FnScope ["web", "tree", "order", "told", "swaps"] ["web", "tree", "order"] (defScope sInner) := ⟨rfl, rfl, rfl, by decide +kernel, rfl, by decide +kernel, by decide +kernel⟩
theorem scOuter : FnScope ["web", "tree", "order", "told", "swaps", "beside"] ["web", "tree", "order"] (defScope sOuter) := ⟨rfl, rfl, rfl, by decide +kernel, rfl, by decide +kernel, by decide +kernel⟩
theorem ndkst : (["k", "swaps", "told"] : List Str).Nodup := by decide +kernel
theorem ndkt : (["k", "tree"] : List Str).Nodup := by decide +kernel
theorem sw64 (n : Int) (ps : List (Int × Int)) (t : List Int) (h8 : ps.length <= 8) (tl : t.length <= 8) : (swP n ps t).length <= 64 := by
  have := flat8 (swOf n ps t) (sw_len n ps t h8) t
  unfold swP
  omega
theorem d_inner (T : Txt K mg) (S : SrcD K mg "inner_ties" sInner ["web", "tree", "order"]) (DT : Def P w K mg base 3 "told_order" ["web", "order"] (spTold K)) (DS : Def P w K mg base 2 "swaps_of" ["web", "tree"] (spSwaps K)) (DI : Def P w K mg base 2 "is_inner" ["order", "swaps", "k"] (spIsS K (·.1) (·.2))) : DefD P w K mg base 4 "inner_ties" ["web", "tree", "order"] (spTies K innP) := by
  refine SrcD.defX S scInner (fun vs H Q E h => ?_) (fun f cdv A outer s H vs Q E hr h => ?_)
  · obtain ⟨_, _, _, _, _, _, _, _, rfl, _⟩ := h; rfl
  · obtain ⟨kd, wv, o, tr, n, ps, t, ord, rfl, W, ok, htr, ks, tl, ho, q⟩ := h
    have h8 := ok.2.2
    have ol : ord.length <= 8 := by rw [ho.perm.length_eq, ups_len]; omega
    refine ⟨_, pss_cons (ps_set (i := 3) scInner.nd rfl (Or.inr rfl) (pe_def DT hr rfl (pa_cons (pv 0) (pa_cons (pv 2) pa_nil))))
      (pss_cons (ps_set (i := 4) scInner.nd rfl (Or.inr rfl) (pe_def DS (hr.mono (by decide)) rfl (pa_cons (pv 0) (pa_cons (pv 1) pa_nil))))
      (pss_one (ps_ret (pe_callTy (call_tuple_ofK K) rfl T.tuple boot_tuple' (pa_cons (pe_comp (N' := ["k", "swaps", "told"]) (fr := [none, some 4, some 3]) (compOk_of (by rfl)) rfl (pi_seqK K .t (pv 1))
        (fun _ _ _ _ => pg_name (i := 0) ndkst rfl (Or.inl rfl) (Or.inr rfl)) (fun _ _ _ _ => pifs_one (pt_val (pe_def DI (hr.mono (by decide)) rfl (pa_cons (pv 2) (pa_cons (pv 1) (pa_cons (pv 0) pa_nil)))))) (fun _ _ _ _ => pv 0)) pa_nil))))), ?_⟩
    refine ⟨_, rfl, _, rfl, kd, wv, o, n, ps, ord, rfl, W, h8, ho, fun t1 H1 s1 h1 => ?_⟩
    refine ⟨_, rfl, _, rfl, wv, tr, n, ps, t, rfl, W.same s1, ok, s1.tup htr, ks, tl, fun g2 zs H2 s2 hz pz => ?_⟩
    have s12 := s1.trans s2
    have ht2 := h1.same s2
    refine ⟨_, rfl, tr, rfl, ⟨_, s12.tup htr⟩, comp_seq (k := .t) (a := tr) (xs := t.map V.int) (fun σ => ∃ v, σ = [v, some (.ref g2), some (.ref t1)]) (fun i ys H3 => Same H2 H3 /\ ys = ((t.take i).filter fun k => !((ord.take (ixOf ord k)).any fun c => decide (c ∈ ((swP n ps t).filter fun p => decide (p.1 = k)).map (·.2)))).map V.int) ⟨_, rfl⟩ ⟨Same.refl _, rfl⟩ (by rw [List.length_map]; exact ten_line (by omega)) (fun i ys H3 _ z => (s12.trans z.1).tup htr) ?_ ?_⟩
    · rintro i x ys σ H3 N hx ⟨u, rfl⟩ ⟨s3, rfl⟩ hN
      obtain ⟨k, ek, rfl⟩ := get_int' hx
      have km := ks k (List.mem_of_getElem? ek)
      have ko : k ∈ ord := ho.perm.mem_iff.mpr (mem_ups.mpr km)
      dsimp only [gName, List.set]
      refine ⟨_, rfl, _, rfl, _, rfl, t1, g2, ord, k, zs, swP n ps t, rfl, ht2.same s3, s3 _ _ hz, ties_same pz s3, sw64 n ps t h8 tl, ko, ol, fun H4 s4 => ⟨_, rfl, ?_⟩⟩
      refine ite2 (fun z => ⟨_, rfl, ?_⟩) (fun z => ?_)
      · refine hN _ _ _ ⟨_, rfl⟩ ⟨s3.trans s4, ?_⟩ (by simp)
        rw [filt_take _ ek, if_pos z, List.map_append]
        rfl
      · refine hN _ _ _ ⟨_, rfl⟩ ⟨s3.trans s4, ?_⟩ (by simp)
        rw [filt_take _ ek, if_neg z, List.append_nil]
    · rintro ys H3 ⟨s3, rfl⟩ p4 hp4
      rw [List.length_map, List.take_length]
      refine ⟨p4, _, rfl, .inl ⟨SqL.of upd_same, fun t5 ht5 => ?_⟩⟩
      exact q t5 _ (s12.trans (s3.trans ((Same.new hp4).trans (Same.new ht5)))) upd_same
theorem d_outer (T : Txt K mg) (S : SrcD K mg "outer_ties" sOuter ["web", "tree", "order"]) (DT : Def P w K mg base 3 "told_order" ["web", "order"] (spTold K)) (DS : Def P w K mg base 2 "swaps_of" ["web", "tree"] (spSwaps K)) (DW : Def P w K mg base 1 "whole_pick" ["web"] spWPF) (DI : Def P w K mg base 2 "is_outer" ["order", "swaps", "k"] (spIsS K (·.2) (·.1))) : DefD P w K mg base 4 "outer_ties" ["web", "tree", "order"] (spTies K outP) := by
  refine SrcD.defX S scOuter (fun vs H Q E h => ?_) (fun f cdv A outer s H vs Q E hr h => ?_)
  · obtain ⟨_, _, _, _, _, _, _, _, rfl, _⟩ := h; rfl
  · obtain ⟨kd, wv, o, tr, n, ps, t, ord, rfl, W, ok, htr, ks, tl, ho, q⟩ := h
    have h8 := ok.2.2
    have hr1 : Room 1 _ := hr.mono (by decide)
    have ol : ord.length <= 8 := by rw [ho.perm.length_eq, ups_len]; omega
    refine ⟨_, pss_cons (ps_set (i := 3) scOuter.nd rfl (Or.inr rfl) (pe_def DT hr rfl (pa_cons (pv 0) (pa_cons (pv 2) pa_nil))))
      (pss_cons (ps_set (i := 4) scOuter.nd rfl (Or.inr rfl) (pe_def DS (hr.mono (by decide)) rfl (pa_cons (pv 0) (pa_cons (pv 1) pa_nil))))
      (pss_cons (ps_setComp (i := 5) scOuter.nd rfl (Or.inl rfl) (N' := ["k", "tree"]) (fr := [none, some 1]) (compOk_of (by rfl)) rfl (pi_seqK K .t (pe_def DW hr1 rfl (pa_cons (pv 0) pa_nil)))
        (fun _ _ _ _ => pg_name (i := 0) ndkt rfl (Or.inl rfl) (Or.inr rfl)) (fun _ _ _ _ => pifs_one (pt_cmpR (r := rIn K true) op_notIn_seq (pv 0) (pv 1) rfl)) (fun _ _ _ _ => pv 0))
      (pss_one (ps_ret (pe_callTy (call_tuple_ofK K) rfl T.tuple boot_tuple' (pa_cons (pe_comp (N' := ["k", "swaps", "told"]) (fr := [none, some 4, some 3]) (compOk_of (by rfl)) rfl (pi_seqK K .l (pv 5))
        (fun _ _ _ _ => pg_name (i := 0) ndkst rfl (Or.inl rfl) (Or.inr rfl)) (fun _ _ _ _ => pifs_one (pt_val (pe_def DI (hr.mono (by decide)) rfl (pa_cons (pv 2) (pa_cons (pv 1) (pa_cons (pv 0) pa_nil)))))) (fun _ _ _ _ => pv 0)) pa_nil)))))), ?_⟩
    refine ⟨_, rfl, _, rfl, kd, wv, o, n, ps, ord, rfl, W, h8, ho, fun t1 H1 s1 h1 => ?_⟩
    refine ⟨_, rfl, _, rfl, wv, tr, n, ps, t, rfl, W.same s1, ok, s1.tup htr, ks, tl, fun g2 zs H2 s2 hz pz => ?_⟩
    have s12 := s1.trans s2
    have ht2 := h1.same s2
    refine ⟨_, rfl, wv, n, ps, rfl, W.same s12, h8, fun t3 H3 s3 h3 => ?_⟩
    have s13 := s12.trans s3
    refine ⟨t3, rfl, ⟨_, h3.sq⟩, comp_seq (k := .t) (a := t3) (xs := (ups ps.length).map V.int) (fun σ => ∃ v, σ = [v, some (.ref tr)]) (fun i ys H4 => H4 = H3 /\ ys = (((ups ps.length).take i).filter fun k => !decide (k ∈ t)).map V.int) ⟨_, rfl⟩ ⟨rfl, rfl⟩ (by rw [List.length_map, ups_len]; exact ten_line (by omega)) (fun i ys H4 _ z => by rw [z.1]; exact h3.sq) ?_ ?_⟩
    · rintro i x ys σ H4 N hx ⟨u, rfl⟩ ⟨rfl, rfl⟩ hN
      obtain ⟨k, ek, rfl⟩ := get_int' hx
      dsimp only [gName, List.set]
      refine ⟨_, rfl, _, rfl, tr, t.map V.int, rfl, .inr (s13.tup htr), rfl, all_flat _, _, rfl, ?_⟩
      rw [if_pos rfl, in_ints]
      refine ite2 (fun z => ⟨_, rfl, ?_⟩) (fun z => ?_)
      · refine hN _ _ _ ⟨_, rfl⟩ ⟨rfl, ?_⟩ (by simp)
        rw [filt_take _ ek, if_pos z, List.map_append]
        rfl
      · refine hN _ _ _ ⟨_, rfl⟩ ⟨rfl, ?_⟩ (by simp)
        rw [filt_take _ ek, if_neg z, List.append_nil]
    · rintro ys H4 ⟨rfl, rfl⟩ p5 hp5
      rw [List.length_map, List.take_length]
      have eb : ((ups ps.length).filter fun k => !decide (k ∈ t)) = besP ps t := rfl
      rw [eb]
      have s5 := Same.new (o := HO.lst ((besP ps t).map V.int)) hp5
      have h5 : (upd H4 p5 (.lst ((besP ps t).map V.int))) p5 = some (.lst ((besP ps t).map V.int)) := upd_same
      generalize upd H4 p5 (.lst ((besP ps t).map V.int)) = H5 at s5 h5 ⊢
      have s25 := s3.trans s5
      have bl : (besP ps t).length <= 8 := by
        have := List.length_filter_le (fun k => !decide (k ∈ t)) (ups ps.length)
        rw [ups_len] at this
        unfold besP
        omega
      refine ⟨_, rfl, p5, rfl, ⟨_, SqL.of h5⟩, comp_seq (k := .l) (a := p5) (xs := (besP ps t).map V.int) (fun σ => ∃ v, σ = [v, some (.ref g2), some (.ref t1)]) (fun i ys H6 => Same H5 H6 /\ ys = (((besP ps t).take i).filter fun k => !((ord.take (ixOf ord k)).any fun c => decide (c ∈ ((swP n ps t).filter fun p => decide (p.2 = k)).map (·.1)))).map V.int) ⟨_, rfl⟩ ⟨Same.refl _, rfl⟩ (by rw [List.length_map]; exact ten_line (by omega)) (fun i ys H6 _ z => SqL.of (z.1 _ _ h5)) ?_ ?_⟩
      · rintro i x ys σ H6 N hx ⟨u, rfl⟩ ⟨s6, rfl⟩ hN
        obtain ⟨k, ek, rfl⟩ := get_int' hx
        have ko : k ∈ ord := ho.perm.mem_iff.mpr (List.mem_filter.mp (List.mem_of_getElem? ek)).1
        have s26 := s25.trans s6
        dsimp only [gName, List.set]
        refine ⟨_, rfl, _, rfl, _, rfl, t1, g2, ord, k, zs, swP n ps t, rfl, ht2.same s26, s26 _ _ hz, ties_same pz s26, sw64 n ps t h8 tl, ko, ol, fun H7 s7 => ⟨_, rfl, ?_⟩⟩
        refine ite2 (fun z => ⟨_, rfl, ?_⟩) (fun z => ?_)
        · refine hN _ _ _ ⟨_, rfl⟩ ⟨s6.trans s7, ?_⟩ (by simp)
          rw [filt_take _ ek, if_pos z, List.map_append]
          rfl
        · refine hN _ _ _ ⟨_, rfl⟩ ⟨s6.trans s7, ?_⟩ (by simp)
          rw [filt_take _ ek, if_neg z, List.append_nil]
      · rintro ys H6 ⟨s6, rfl⟩ p7 hp7
        rw [List.length_map, List.take_length]
        refine ⟨p7, _, rfl, .inl ⟨SqL.of upd_same, fun t8 ht8 => ?_⟩⟩
        exact q t8 _ (s13.trans (s5.trans (s6.trans ((Same.new hp7).trans (Same.new ht8))))) upd_same
end
def spOrder (K : W.Frag) : Sp := fun vs H Q _ => ∃ (a : Addr) (ns : List Int) (m : Nat), vs = [.ref a, .int m] /\ SqL K H a (ns.map V.int) /\ m <= 8 /\ ∀ (l : Addr) (ord : List Int) (H' : Hp), Same H H' -> H' l = some (.lst (ord.map V.int)) -> ord.Perm (ups m) -> Q (.ref l) H'
section
variable {P : Program} {w : World} {K : W.Frag} {mg : Str -> Option Value} {base : Heap}
theorem scOrder : FnScope ["_law_script", "_law_many", "_law_order_here", "_law_k"] ["_law_script", "_law_many"] (defScope sOrder) := ⟨rfl, rfl, rfl, by decide +kernel, rfl, by decide +kernel, by decide +kernel⟩
theorem d_order (T : Txt K mg) (S : Src K mg "_law_order" sOrder ["_law_script", "_law_many"]) (DA : Def P w K mg base 1 "_law_at" ["_law_script", "_law_k"] (spAt K)) : Def P w K mg base 2 "_law_order" ["_law_script", "_law_many"] (spOrder K) := by
  refine S.def scOrder (fun vs H Q E h => ?_) (fun f cdv A outer s H vs Q E hr h => ?_)
  · obtain ⟨_, _, _, rfl, _⟩ := h; rfl
  · obtain ⟨a, ns, m, rfl, hq, m8, q⟩ := h
    refine ⟨_, pss_cons (ps_set (i := 2) scOrder.nd rfl (Or.inl rfl) (pe_lst pa_nil))
      (pss_cons (ps_for PassesOwn.never rfl (pi_range1 rfl T.range (pa_cons (pv 1) pa_nil)) (pg_name (i := 3) scOrder.nd rfl (Or.inl rfl))
        (pss_one (ps_expr (pe_bm PySem.F.plainAttrs_list PySem.F.slot_list_insert PySem.F.type_list_insert mt_insert (pv 2) (pa_cons (pe_op op_mod (pe_def DA hr rfl (pa_cons (pv 0) (pa_cons (pe_op op_add pe_int (pv 3)) pa_nil))) (pe_op op_add (pv 3) pe_int)) (pa_cons (pv 3) pa_nil))))))
      (pss_one (ps_ret (pv 2)))), ?_⟩
    refine ⟨Nat.zero_le _, fun g hg => ?_⟩
    have s0 := Same.new (o := HO.lst []) hg
    have g0 : (upd H g (.lst [])) g = some (.lst (([] : List Int).map V.int)) := upd_same
    generalize upd H g (.lst []) = H1 at s0 g0 ⊢
    refine ⟨_, rfl, (m : Int), rfl, by lia, by lia, ?_⟩
    rw [Int.toNat_natCast]
    refine for_range (lo := 0) (n := m) (fun j σ H' => (∃ u, σ = [some (.ref a), some (.int m), some (.ref g), u]) /\ Same H H' /\ ∃ ord : List Int, H' g = some (.lst (ord.map V.int)) /\ ord.Perm (ups j)) ⟨⟨_, rfl⟩, s0, [], g0, List.Perm.refl _⟩ ?_ ?_
    · rintro j σ H2 hj ⟨⟨u, rfl⟩, sm, ord, ho, pm⟩
      have ol : ord.length = j := by rw [pm.length_eq, ups_len]; lia
      rw [show (0 : Int) + (j : Int) = (j : Int) by lia]
      dsimp only [gName, List.set]
      refine ⟨_, rfl, .inl ⟨rfl, _, SqL.of ho⟩, _, rfl, _, rfl, _, _, rfl, rfl, a, ns, 9 + j, ?_, sm.seq hq, _, rfl, _, _, rfl, rfl, _, _, rfl, rfl, (by show (0 : Int) < (j : Int) + 1; lia), _, rfl, ?_⟩
      · show [V.ref a, V.int (9 + (j : Int))] = [V.ref a, V.int ((9 + j : Nat) : Int)]
        rw [Int.natCast_add]
        rfl
      generalize ns.getD (9 + j) 0 = z0
      have hz := mod_in z0 ((j : Int) + 1) (by lia)
      obtain ⟨i, hi⟩ := Int.eq_ofNat_of_zero_le hz.1
      refine ⟨g, ord.map V.int, i, .int j, rfl, ?_, ho, by rw [List.length_map]; lia, by rw [List.length_map]; lia, ?_⟩
      · show [V.int (z0 % ((j : Int) + 1)), V.int (j : Int)] = [V.int (i : Int), V.int (j : Int)]
        rw [hi]
      refine ⟨⟨_, rfl⟩, put_fresh sm hg, ord.take i ++ (j : Int) :: ord.drop i, ?_, ?_⟩
      · rw [upd_same, List.map_append, List.map_cons, List.map_take, List.map_drop]
      · have e1 : ups ((j + 1 : Nat) : Int) = ups j ++ [(j : Int)] := by rw [show ((j + 1 : Nat) : Int) = (j : Int) + 1 by lia, ups_snoc (by lia)]
        rw [e1]
        refine List.perm_middle.trans ?_
        rw [List.take_append_drop]
        exact (pm.cons _).trans (List.perm_append_singleton _ _).symm
    · rintro σ H2 ⟨⟨u, rfl⟩, sm, ord, ho, pm⟩
      exact ⟨_, rfl, q g ord H2 sm ho pm⟩
end
theorem Paired.drop {α β : Type} {F : α -> β -> Prop} : ∀ (n : Nat) {l₁ : List α} {l₂ : List β}, Paired F l₁ l₂ -> Paired F (l₁.drop n) (l₂.drop n)
  | 0, _, _, h => h
  | _ + 1, _, _, .nil => .nil
  | n + 1, _, _, .cons _ t => Paired.drop n t
theorem Paired.app {α β : Type} {F : α -> β -> Prop} : ∀ {l₁ k₁ : List α} {l₂ k₂ : List β}, Paired F l₁ l₂ -> Paired F k₁ k₂ -> Paired F (l₁ ++ k₁) (l₂ ++ k₂)
  | _, _, _, _, .nil, h => h
  | _, _, _, _, .cons r t, h => .cons r (Paired.app t h)
theorem norm_le (p : Int × Int) : (norm p).1 <= (norm p).2 := by unfold norm; split <;> simp only <;> omega
def wo {α : Type} (qs : List α) (j : Nat) : List α := qs.take j ++ qs.drop (j + 1)
def mvL (lo hi p : Int) : Int := if p = hi then lo else if hi < p then p - 1 else p
def drawnP (qs : List (Int × Int)) (j : Nat) (p : Int × Int) : List (Int × Int) := if p.1 = p.2 then wo qs j else (wo qs j).map fun r => norm (mvL p.1 p.2 r.1, mvL p.1 p.2 r.2)
def drawnN (n : Int) (p : Int × Int) : Int := if p.1 = p.2 then n else n - 1
def NrmP (ps : List (Int × Int)) : Prop := ∀ p ∈ ps, p.1 <= p.2
def spWithI : Sp := fun vs H Q _ => ∃ x a b : Int, vs = [.int x, .int a, .int b] /\ a <= x /\ x <= b /\ Q (.bl true) H
section
variable {P : Program} {w : World} {K : W.Frag} {mg : Str -> Option Value} {base : Heap}
theorem scWithin : FnScope ["thing", "least", "greatest"] ["thing", "least", "greatest"] (defScope sWithin) := ⟨rfl, rfl, rfl, by decide +kernel, rfl, by decide +kernel, by decide +kernel⟩
theorem d_withI (S : Src K mg "is_whole_within" sWithin ["thing", "least", "greatest"]) (D : Def P w K mg base 1 "is_whole" ["thing"] spWholeI) : Def P w K mg base 2 "is_whole_within" ["thing", "least", "greatest"] spWithI := by
  refine S.def scWithin (fun vs H Q E h => ?_) (fun f cdv A outer s H vs Q E hr h => ?_)
  · obtain ⟨x, lo, hi, rfl, _⟩ := h; rfl
  · obtain ⟨x, lo, hi, rfl, h1, h2, q⟩ := h
    refine ⟨_, pss_one (ps_ret (pe_and (pe_def D hr rfl (pa_cons (pv 0) pa_nil)) (pe_one (pe_chain op_le op_le (pv 1) (pv 0) (pv 2))))), ?_⟩
    refine ⟨_, rfl, x, rfl, _, rfl, iteT ⟨_, rfl, _, rfl, _, _, rfl, rfl, _, rfl, ?_⟩⟩
    rw [decide_eq_true h1]
    refine iteT ⟨_, rfl, _, _, rfl, rfl, ?_⟩
    dsimp only
    rw [decide_eq_true h2]
    exact q
end
def spLess : Sp := fun vs H Q _ => ∃ a b : Int, vs = [.int a, .int b] /\ ∀ d, H d = none -> Q (.ref d) (upd H d (.tup [.int (norm (a, b)).1, .int (norm (a, b)).2]))
section
variable {P : Program} {w : World} {K : W.Frag} {mg : Str -> Option Value} {base : Heap}
theorem scLess : FnScope ["a", "b"] ["a", "b"] (defScope sLesser) := ⟨rfl, rfl, rfl, by decide +kernel, rfl, by decide +kernel, by decide +kernel⟩
theorem d_less (S : Src K mg "lesser_first" sLesser ["a", "b"]) : Def P w K mg base 1 "lesser_first" ["a", "b"] spLess := by
  refine S.def scLess (fun vs H Q E h => ?_) (fun f cdv A outer s H vs Q E hr h => ?_)
  · obtain ⟨_, _, rfl, _⟩ := h; rfl
  · obtain ⟨a, b, rfl, q⟩ := h
    refine ⟨_, pss_one (ps_ret (pe_ifExp (pt_cmpR op_le (pv 0) (pv 1) (nomark _)) (pe_tup (pa_cons (pv 0) (pa_cons (pv 1) pa_nil))) (pe_tup (pa_cons (pv 1) (pa_cons (pv 0) pa_nil))))), ?_⟩
    refine ⟨_, rfl, _, rfl, _, _, rfl, rfl, _, rfl, ?_⟩
    by_cases h : a <= b
    · rw [decide_eq_true h]
      refine iteT ⟨_, rfl, _, rfl, by show 2 <= sizeLine; decide, fun d hd => ?_⟩
      have := q d hd
      rw [show norm (a, b) = (a, b) from if_pos h] at this
      exact this
    · rw [decide_eq_false h]
      refine iteF ⟨_, rfl, _, rfl, by show 2 <= sizeLine; decide, fun d hd => ?_⟩
      have := q d hd
      rw [show norm (a, b) = (b, a) from if_neg h] at this
      exact this
end
theorem mvL_in {a b x n : Int} (h : a < b) (a0 : 0 <= a) (bn : b < n) (x0 : 0 <= x) (xn : x < n) : 0 <= mvL a b x /\ mvL a b x < n - 1 := by unfold mvL; split <;> (try split) <;> lia
theorem drawn_len (ps : List (Int × Int)) (j : Nat) (p : Int × Int) : (drawnP ps j p).length = (wo ps j).length := by unfold drawnP; split <;> simp
theorem wo_len1 {α : Type} {qs : List α} {j : Nat} (hj : j < qs.length) : (wo qs j).length + 1 = qs.length := by unfold wo; rw [List.length_append, List.length_take, List.length_drop]; lia
theorem wo_mem {α : Type} {qs : List α} {j : Nat} {q : α} (h : q ∈ wo qs j) : q ∈ qs := by
  rcases List.mem_append.mp h with z | z
  · exact List.mem_of_mem_take z
  · exact List.mem_of_mem_drop z
theorem drawn_in {n : Int} {ps : List (Int × Int)} {j : Nat} {p : Int × Int} (hb : ∀ q ∈ ps, InN n q) (hlt : p.1 < p.2) (hp : InN n p) : ∀ q ∈ drawnP ps j p, InN (n - 1) q := by
  obtain ⟨p1, p2, p3, p4⟩ := hp
  unfold drawnP
  rw [if_neg (by lia)]
  intro q hq
  obtain ⟨r, hr, rfl⟩ := List.mem_map.mp hq
  obtain ⟨r1, r2, r3, r4⟩ := hb r (wo_mem hr)
  have a := mvL_in hlt p1 p4 r1 r2
  have b := mvL_in hlt p1 p4 r3 r4
  unfold norm
  split
  · exact ⟨a.1, a.2, b.1, b.2⟩
  · exact ⟨b.1, b.2, a.1, a.2⟩
def oth (m k : Int) : List Int := (ups m).filter fun j => !decide (j = k)
theorem oth_ks (m : Nat) (k : Int) : Ks m (oth m k) := fun j hj => ups_ks m j (List.mem_filter.mp hj).1
theorem mem_oth {m k j : Int} : j ∈ oth m k ↔ (0 <= j /\ j < m) /\ j ≠ k := by
  unfold oth
  rw [List.mem_filter, mem_ups, Bool.not_eq_true', decide_eq_false_iff_not]
inductive Stp where
  | fin
  | curl (t : Int) (s : Stp)
  | bri (t : Int) (s : Stp)
  | frk (t : Int) (a b : Stp)
def Stp.deep : Stp -> Nat
  | .fin => 0
  | .curl _ s => s.deep + 1
  | .bri _ s => s.deep + 1
  | .frk _ a b => max a.deep b.deep + 1
def stpM : Nat -> Int -> List (Int × Int) -> List Int -> List Int -> Stp
  | 0, _, _, _, _ => .fin
  | d + 1, n, ps, nums, ord =>
    if (tieN ps (nums.idxOf (ord.getLastD 0) : Nat)).1 = (tieN ps (nums.idxOf (ord.getLastD 0) : Nat)).2 then .curl (ord.getLastD 0) (stpM d n (wo ps (nums.idxOf (ord.getLastD 0))) (wo nums (nums.idxOf (ord.getLastD 0))) ord.dropLast)
    else if rkP n ps (oth ps.length (nums.idxOf (ord.getLastD 0) : Nat)) < rkAll n ps then .bri (ord.getLastD 0) (stpM d (n - 1) (drawnP ps (nums.idxOf (ord.getLastD 0)) (tieN ps (nums.idxOf (ord.getLastD 0) : Nat))) (wo nums (nums.idxOf (ord.getLastD 0))) ord.dropLast)
    else .frk (ord.getLastD 0) (stpM d n (wo ps (nums.idxOf (ord.getLastD 0))) (wo nums (nums.idxOf (ord.getLastD 0))) ord.dropLast) (stpM d (n - 1) (drawnP ps (nums.idxOf (ord.getLastD 0)) (tieN ps (nums.idxOf (ord.getLastD 0) : Nat))) (wo nums (nums.idxOf (ord.getLastD 0))) ord.dropLast)
theorem stp_deep : ∀ (d : Nat) (n : Int) (ps : List (Int × Int)) (nums ord : List Int), (stpM d n ps nums ord).deep <= d
  | 0, _, _, _, _ => Nat.le_refl _
  | d + 1, n, ps, nums, ord => by
    unfold stpM
    split
    · exact Nat.succ_le_succ (stp_deep d _ _ _ _)
    · split
      · exact Nat.succ_le_succ (stp_deep d _ _ _ _)
      · exact Nat.succ_le_succ (Nat.max_le.mpr ⟨stp_deep d _ _ _ _, stp_deep d _ _ _ _⟩)
structure OkS (d : Nat) (n : Int) (ps : List (Int × Int)) (nums ord : List Int) : Prop where
  ok : WebOk n ps
  nm : NrmP ps
  len : ps.length = d
  nl : nums.length = d
  nd : nums.Nodup
  pm : ord.Perm nums
section
variable {d : Nat} {n : Int} {ps : List (Int × Int)} {nums ord : List Int}
theorem OkS.last (S : OkS (d + 1) n ps nums ord) : ord = ord.dropLast ++ [ord.getLastD 0] /\ ord.getLastD 0 ∈ nums := by
  have ol : ord.length = d + 1 := S.pm.length_eq.trans S.nl
  have ne : ord ≠ [] := fun z => by rw [z] at ol; cases ol
  have e : ord.getLastD 0 = ord.getLast ne := by
    cases ord with
    | nil => exact absurd rfl ne
    | cons a l => rfl
  refine ⟨by rw [e]; exact (List.dropLast_concat_getLast ne).symm, S.pm.subset ?_⟩
  rw [e]
  exact List.getLast_mem ne
theorem OkS.at (S : OkS (d + 1) n ps nums ord) : nums.idxOf (ord.getLastD 0) < ps.length /\ nums[nums.idxOf (ord.getLastD 0)]? = some (ord.getLastD 0) := by
  have h := List.idxOf_lt_length_of_mem S.last.2
  have := S.nl
  have := S.len
  refine ⟨by lia, ?_⟩
  rw [List.getElem?_eq_getElem h, List.getElem_idxOf h]
theorem wo_perm {l : List Int} {j : Nat} {x : Int} (h : l[j]? = some x) : l.Perm (x :: wo l j) := by
  obtain ⟨hj, e⟩ := List.getElem?_eq_some_iff.mp h
  have : l = l.take j ++ x :: l.drop (j + 1) := by rw [<- e, List.getElem_cons_drop, List.take_append_drop]
  rw [this]
  conv => rhs; rw [<- this]
  exact List.perm_middle
theorem wo_sub {α : Type} {l : List α} {j : Nat} : (wo l j).Sublist l := by
  have h : (l.take j ++ l.drop (j + 1)).Sublist (l.take j ++ l.drop j) := List.Sublist.append (List.Sublist.refl _) (by
    rw [show j + 1 = j + 1 from rfl, <- List.drop_drop]
    exact List.drop_sublist _ _)
  rw [List.take_append_drop] at h
  exact h
theorem OkS.rest (S : OkS (d + 1) n ps nums ord) : (wo nums (nums.idxOf (ord.getLastD 0))).length = d /\ (wo nums (nums.idxOf (ord.getLastD 0))).Nodup /\ ord.dropLast.Perm (wo nums (nums.idxOf (ord.getLastD 0))) := by
  have h := S.at
  have l := wo_len1 (qs := nums) (j := nums.idxOf (ord.getLastD 0)) (by rw [S.nl, <- S.len]; exact h.1)
  refine ⟨by have := S.nl; lia, List.Nodup.sublist wo_sub S.nd, ?_⟩
  have p1 := S.pm.trans (wo_perm h.2)
  have p2 : ord.Perm (ord.getLastD 0 :: ord.dropLast) := by
    conv => lhs; rw [S.last.1]
    exact List.perm_append_comm.trans (List.Perm.refl _)
  exact List.Perm.cons_inv (p2.symm.trans p1)
theorem OkS.left (S : OkS (d + 1) n ps nums ord) : OkS d n (wo ps (nums.idxOf (ord.getLastD 0))) (wo nums (nums.idxOf (ord.getLastD 0))) ord.dropLast := by
  obtain ⟨⟨h19, hb, h8⟩, nm, len, _⟩ := id S
  have l := wo_len1 S.at.1
  exact ⟨⟨h19, fun r hr => hb r (wo_mem hr), by lia⟩, fun r hr => nm r (wo_mem hr), by lia, S.rest.1, S.rest.2.1, S.rest.2.2⟩
theorem OkS.lt (S : OkS (d + 1) n ps nums ord) (nc : ¬ (tieN ps (nums.idxOf (ord.getLastD 0) : Nat)).1 = (tieN ps (nums.idxOf (ord.getLastD 0) : Nat)).2) : (tieN ps (nums.idxOf (ord.getLastD 0) : Nat)).1 < (tieN ps (nums.idxOf (ord.getLastD 0) : Nat)).2 := by
  have := S.nm (tieN ps (nums.idxOf (ord.getLastD 0) : Nat)) (by
    unfold tieN
    rw [Int.toNat_natCast, List.getD_eq_getElem?_getD, List.getElem?_eq_getElem S.at.1]
    exact List.getElem_mem _)
  lia
theorem drawn_nm {j : Nat} {t : Int × Int} (nm : NrmP ps) : NrmP (drawnP ps j t) := by
  intro p hp
  unfold drawnP at hp
  split at hp
  · exact nm p (wo_mem hp)
  · obtain ⟨r, _, rfl⟩ := List.mem_map.mp hp
    exact norm_le _
theorem OkS.draw (S : OkS (d + 1) n ps nums ord) (nc : ¬ (tieN ps (nums.idxOf (ord.getLastD 0) : Nat)).1 = (tieN ps (nums.idxOf (ord.getLastD 0) : Nat)).2) : OkS d (n - 1) (drawnP ps (nums.idxOf (ord.getLastD 0)) (tieN ps (nums.idxOf (ord.getLastD 0) : Nat))) (wo nums (nums.idxOf (ord.getLastD 0))) ord.dropLast := by
  obtain ⟨⟨⟨n1, n9⟩, hb, h8⟩, nm, len, _⟩ := id S
  have l := wo_len1 S.at.1
  have lt := S.lt nc
  have ti := tieN_in hb (k := ((nums.idxOf (ord.getLastD 0) : Nat) : Int)) (by lia) (by have := S.at.1; lia)
  obtain ⟨t1, t2, t3, t4⟩ := id ti
  exact ⟨⟨⟨by lia, by lia⟩, drawn_in hb lt ti, by rw [drawn_len]; lia⟩, drawn_nm nm, by rw [drawn_len]; lia, S.rest.1, S.rest.2.1, S.rest.2.2⟩
end
theorem len_le_sizeLine {n : Nat} (h : n <= 8) : n < sizeLine := Nat.lt_of_le_of_lt h (by decide)
theorem cut_preP (xs : List V) {j : Nat} : cutV xs none (some (j : Int)) = xs.take j := by
  unfold cutV
  rw [show HT.sIx xs.length 0 none = 0 from rfl, HT.sIx_nat]
  rw [List.drop_zero, Nat.sub_zero]
  by_cases h : j <= xs.length
  · rw [Nat.min_eq_left h]
  · rw [Nat.min_eq_right (by lia), List.take_length, List.take_of_length_le (by lia)]
theorem cut_suf (xs : List V) {j : Nat} : cutV xs (some ((j : Int) + 1)) none = xs.drop (j + 1) := by
  unfold cutV
  rw [show ((j : Int) + 1) = ((j + 1 : Nat) : Int) by lia, HT.sIx_nat, show HT.sIx xs.length xs.length none = xs.length from rfl]
  by_cases h : j + 1 <= xs.length
  · rw [Nat.min_eq_left h, List.take_of_length_le (by rw [List.length_drop]; exact Nat.le_refl _)]
  · rw [Nat.min_eq_right (by lia), Nat.sub_self, List.take_zero, List.drop_of_length_le (by lia)]
def spNoTieI : Sp := fun vs H Q _ => ∃ (wv : V) (n : Int) (ps : List (Int × Int)) (k : Int), vs = [wv, .int k] /\ WebAt H wv n ps /\ 0 <= k /\ k < (ps.length : Int) /\ Q .non H
def spLeftI : Sp := fun vs H Q _ => ∃ (wv : V) (n : Int) (qs : List (Int × Int)) (j : Nat), vs = [wv, .int j] /\ WebAt H wv n qs /\ qs.length <= 8 /\ j < qs.length /\ ∀ w' H', Same H H' -> WebAt H' w' n (wo qs j) -> Q w' H'
def spMoved : Sp := fun vs H Q _ => ∃ p lo hi : Int, vs = [.int p, .int lo, .int hi] /\ Q (.int (mvL lo hi p)) H
def spDrawnI : Sp := fun vs H Q _ => ∃ (wv : V) (n : Int) (qs : List (Int × Int)) (j : Nat), vs = [wv, .int j] /\ WebAt H wv n qs /\ qs.length <= 8 /\ j < qs.length /\ ∀ w' H', Same H H' -> WebAt H' w' (drawnN n (tieN qs j)) (drawnP qs j (tieN qs j)) -> Q w' H'
def kindP (n : Int) (ps : List (Int × Int)) (k : Int) : Str :=
  if (tieN ps k).1 = (tieN ps k).2 then "curl" else if rkP n ps (oth ps.length k) < rkAll n ps then "bridge" else "plain"
def spKindI (K : W.Frag) : Sp := fun vs H Q _ => ∃ (wv : V) (n : Int) (ps : List (Int × Int)) (k : Int), vs = [wv, .int k] /\ WebAt H wv n ps /\ WebOk n ps /\ 0 <= k /\ k < (ps.length : Int) /\ ∀ H', Same H H' -> Q (.str (kindP n ps k)) H'
section
variable {P : Program} {w : World} {K : W.Frag} {mg : Str -> Option Value} {base : Heap}
theorem scNoTie : FnScope ["web", "k"] ["web", "k"] (defScope sNoTie) := ⟨rfl, rfl, rfl, by decide +kernel, rfl, by decide +kernel, by decide +kernel⟩
theorem d_notieI (T : Txt K mg) (S : Src K mg "refuse_no_tie_of" sNoTie ["web", "k"]) (D : Def P w K mg base 2 "is_whole_within" ["thing", "least", "greatest"] spWithI) : Def P w K mg base 3 "refuse_no_tie_of" ["web", "k"] spNoTieI := by
  refine S.def scNoTie (fun vs H Q E h => ?_) (fun f cdv A outer s H vs Q E hr h => ?_)
  · obtain ⟨_, _, _, _, rfl, _⟩ := h; rfl
  · obtain ⟨wv, n, ps, k, rfl, W, k0, kl, q⟩ := h
    obtain ⟨c, d, xs, rfl, hc, hd, ht⟩ := W.ex
    have xl : xs.length = ps.length := Paired.length ht
    refine ⟨_, pss_one (ps_if (pt_not (pt_val (pe_def D hr rfl (pa_cons (pv 1) (pa_cons pe_int (pa_cons (pe_op op_sub (pe_callB (call_lenK K) (by rfl) T.len PySem.boot_len (pa_cons (pe_ix (ix_tupK K) (pv 0) pe_int (fun _ _ => rfl)) pa_nil)) pe_int) pa_nil)))))) pss_never pss_nil), ?_⟩
    have i1 : atI ([.int n, .ref d] : List V) 1 = some (.ref d) := atI_nat (j := 1) rfl
    exact ⟨_, rfl, _, rfl, c, _, _, _, rfl, rfl, SqT.of hc, i1, d, xs, rfl, .inr (SqT.of hd), _, _, rfl, rfl, k, 0, (xs.length : Int) - 1, rfl, k0, by lia, _, rfl, iteF q⟩
theorem scLeft : FnScope ["web", "k"] ["web", "k"] (defScope sLeft) := ⟨rfl, rfl, rfl, by decide +kernel, rfl, by decide +kernel, by decide +kernel⟩
theorem d_leftI (S : Src K mg "left_out" sLeft ["web", "k"]) (DN : Def P w K mg base 3 "refuse_no_tie_of" ["web", "k"] spNoTieI) : Def P w K mg base 4 "left_out" ["web", "k"] spLeftI := by
  refine S.def scLeft (fun vs H Q E h => ?_) (fun f cdv A outer s H vs Q E hr h => ?_)
  · obtain ⟨_, _, _, _, rfl, _⟩ := h; rfl
  · obtain ⟨wv, n, qs, j, rfl, W, hl8, jl, q⟩ := h
    obtain ⟨c, d, xs, rfl, hc', hd, ht⟩ := id W.ex
    have xl : xs.length = qs.length := Paired.length ht
    refine ⟨_, pss_cons (ps_expr (pe_def DN hr rfl (pa_cons (pv 0) (pa_cons (pv 1) pa_nil))))
      (pss_one (ps_ret (pe_tup (pa_cons (pe_ix (ix_tupK K) (pv 0) pe_int (fun _ _ => rfl)) (pa_cons (pe_op (op_catAK K) (pe_slice (sl_tupK K) (pe_ix (ix_tupK K) (pv 0) pe_int (fun _ _ => rfl)) po_none (po_some (pv 1)))
        (pe_slice (sl_tupK K) (pe_ix (ix_tupK K) (pv 0) pe_int (fun _ _ => rfl)) (po_some (pe_op op_add (pv 1) pe_int)) po_none)) pa_nil))))), ?_⟩
    have i1 : atI ([.int n, .ref d] : List V) 1 = some (.ref d) := atI_nat (j := 1) rfl
    have i0 : atI ([.int n, .ref d] : List V) 0 = some (.int n) := atI_nat (j := 0) rfl
    refine ⟨_, rfl, _, rfl, .ref c, n, qs, (j : Int), rfl, W, by lia, by lia, ?_⟩
    refine ⟨_, rfl, c, _, _, _, rfl, rfl, SqT.of hc', i0, _, rfl, c, _, _, _, rfl, rfl, SqT.of hc', i1, _, rfl, _, rfl, d, xs, rfl, SqT.of hd, ?_, fun p1 hp1 => ?_⟩
    · rintro ⟨_, z⟩
      rw [HT.sIx_nat] at z
      lia
    rw [cut_preP]
    have s1 := Same.new (o := HO.tup (xs.take j)) hp1
    have h1 : (upd H p1 (.tup (xs.take j))) p1 = some (.tup (xs.take j)) := upd_same
    generalize upd H p1 (.tup (xs.take j)) = H1 at s1 h1 ⊢
    refine ⟨_, rfl, c, _, _, _, rfl, rfl, SqT.of (s1 _ _ hc'), i1, _, rfl, _, _, rfl, rfl, _, rfl, d, xs, rfl, SqT.of (s1 _ _ hd), ?_, fun p2 hp2 => ?_⟩
    · rintro ⟨z, _⟩
      rw [show ((j : Int) + 1) = ((j + 1 : Nat) : Int) by lia, HT.sIx_nat] at z
      lia
    rw [cut_suf]
    have s2 := Same.new (o := HO.tup (xs.drop (j + 1))) hp2
    have h2 : (upd H1 p2 (.tup (xs.drop (j + 1)))) p2 = some (.tup (xs.drop (j + 1))) := upd_same
    have h1' := s2 _ _ h1
    generalize upd H1 p2 (.tup (xs.drop (j + 1))) = H2 at s2 h2 h1' ⊢
    refine ⟨p1, p2, _, _, rfl, rfl, h1', h2, ?_, fun p H3 s3 h3 => ⟨by show 2 <= sizeLine; decide, fun c2 hc2 => ?_⟩⟩
    · rw [List.length_take, List.length_drop]
      exact Nat.le_trans (show _ <= 16 by lia) (by decide)
    have s4 := Same.new (o := HO.tup [.int n, .ref p]) hc2
    refine q _ _ (((s1.trans s2).trans s3).trans s4) ⟨c2, p, _, rfl, upd_same, s4 _ _ h3, ?_⟩
    exact ties_same (Paired.app (L2.Paired.take j ht) (Paired.drop (j + 1) ht)) (((s1.trans s2).trans s3).trans s4)
theorem scMoved : FnScope ["point", "low", "high"] ["point", "low", "high"] (defScope sMoved) := ⟨rfl, rfl, rfl, by decide +kernel, rfl, by decide +kernel, by decide +kernel⟩
theorem d_moved (S : Src K mg "moved" sMoved ["point", "low", "high"]) : Def P w K mg base 1 "moved" ["point", "low", "high"] spMoved := by
  refine S.def scMoved (fun vs H Q E h => ?_) (fun f cdv A outer s H vs Q E hr h => ?_)
  · obtain ⟨_, _, _, rfl, _⟩ := h; rfl
  · obtain ⟨p, lo, hi, rfl, q⟩ := h
    refine ⟨_, pss_cons (ps_if (pt_cmpR op_eq (pv 0) (pv 2) (nomark _)) (pss_one (ps_ret (pv 1))) pss_nil)
      (pss_one (ps_ret (pe_ifExp (pt_cmpR op_gt (pv 0) (pv 2) (nomark _)) (pe_op op_sub (pv 0) pe_int) (pv 0)))), ?_⟩
    unfold mvL at q
    refine ⟨_, rfl, _, rfl, rfl, _, rfl, ?_⟩
    by_cases h1 : p = hi
    · rw [decide_eq_true (show V.int p = V.int hi by rw [h1])]
      rw [if_pos h1] at q
      exact iteT ⟨_, rfl, q⟩
    · rw [decide_eq_false (show ¬ V.int p = V.int hi from fun z => h1 (by injection z))]
      rw [if_neg h1] at q
      refine iteF ⟨_, rfl, _, rfl, _, _, rfl, rfl, _, rfl, ?_⟩
      by_cases h2 : hi < p
      · rw [decide_eq_true h2]
        rw [if_pos h2] at q
        exact iteT ⟨_, rfl, _, _, rfl, rfl, q⟩
      · rw [decide_eq_false h2]
        rw [if_neg h2] at q
        exact iteF ⟨_, rfl, q⟩
theorem scDrawn : FnScope ["web", "k", "rest", "low", "high", "ties"] ["web", "k"] (defScope sDrawn) := ⟨rfl, rfl, rfl, by decide +kernel, rfl, by decide +kernel, by decide +kernel⟩
theorem ndD : (["a", "b", "high", "low"] : List Str).Nodup := by decide +kernel
theorem wo_len {α : Type} (qs : List α) (j : Nat) : (wo qs j).length <= qs.length := by unfold wo; rw [List.length_append, List.length_take, List.length_drop]; lia
theorem d_drawnI (T : Txt K mg) (S : Src K mg "drawn_together" sDrawn ["web", "k"]) (DL : Def P w K mg base 4 "left_out" ["web", "k"] spLeftI) (DM : Def P w K mg base 1 "moved" ["point", "low", "high"] spMoved)
    (DF : Def P w K mg base 1 "lesser_first" ["a", "b"] spLess) : Def P w K mg base 5 "drawn_together" ["web", "k"] spDrawnI := by
  refine S.def scDrawn (fun vs H Q E h => ?_) (fun f cdv A outer s H vs Q E hr h => ?_)
  · obtain ⟨_, _, _, _, rfl, _⟩ := h; rfl
  · obtain ⟨wv, n, qs, j, rfl, W, hl8, jl, q⟩ := h
    obtain ⟨c, d, xs, rfl, hc', hd, ht⟩ := id W.ex
    have xl : xs.length = qs.length := Paired.length ht
    have hr1 : Room 1 _ := hr.mono (by decide)
    refine ⟨_, pss_cons (ps_set (i := 2) scDrawn.nd rfl (Or.inl rfl) (pe_def DL hr rfl (pa_cons (pv 0) (pa_cons (pv 1) pa_nil))))
      (pss_cons (ps_set (i := 3) scDrawn.nd rfl (Or.inr rfl) (pe_ix (ix_tupK K) (pe_ix (ix_tupK K) (pe_ix (ix_tupK K) (pv 0) pe_int (fun _ _ => rfl)) (pv 1) (fun _ _ => rfl)) pe_int (fun _ _ => rfl)))
      (pss_cons (ps_set (i := 4) scDrawn.nd rfl (Or.inr rfl) (pe_ix (ix_tupK K) (pe_ix (ix_tupK K) (pe_ix (ix_tupK K) (pv 0) pe_int (fun _ _ => rfl)) (pv 1) (fun _ _ => rfl)) pe_int (fun _ _ => rfl)))
      (pss_cons (ps_if (pt_cmpR op_eq (pv 3) (pv 4) (nomark _)) (pss_one (ps_ret (pv 2))) pss_nil)
      (pss_cons (ps_setComp (i := 5) scDrawn.nd rfl (Or.inl rfl) (N' := ["a", "b", "high", "low"]) (fr := [none, none, some 4, some 3]) (compOk_of (by rfl)) rfl (pi_seqK K .t (pe_ix (ix_tupK K) (pv 2) pe_int (fun _ _ => rfl)))
        (g := gTup K 2 (gCons (gName 0) (gCons (gName 1) gNil))) (fun _ _ _ _ => pg_tupK K 2 rfl (pgs_cons (pg_name (i := 0) ndD rfl (Or.inl rfl) (Or.inr rfl)) (pgs_cons (pg_name (i := 1) ndD rfl (Or.inl rfl) (Or.inr rfl)) pgs_nil)))
        (fun _ _ _ _ => pifs_nil) (fun _ _ _ _ => pe_def DF hr1 rfl (pa_cons (pe_def DM hr1 rfl (pa_cons (pv 0) (pa_cons (pv 3) (pa_cons (pv 2) pa_nil)))) (pa_cons (pe_def DM hr1 rfl (pa_cons (pv 1) (pa_cons (pv 3) (pa_cons (pv 2) pa_nil)))) pa_nil))))
      (pss_one (ps_ret (pe_tup (pa_cons (pe_op op_sub (pe_ix (ix_tupK K) (pv 0) pe_int (fun _ _ => rfl)) pe_int) (pa_cons (pe_callTy (call_tuple_ofK K) rfl T.tuple boot_tuple' (pa_cons (pv 5) pa_nil)) pa_nil))))))))), ?_⟩
    have i1 : atI ([.int n, .ref d] : List V) 1 = some (.ref d) := atI_nat (j := 1) rfl
    have i0 : atI ([.int n, .ref d] : List V) 0 = some (.int n) := atI_nat (j := 0) rfl
    refine ⟨_, rfl, _, rfl, .ref c, n, qs, j, rfl, W, hl8, jl, fun w1 H1 s1 W1 => ?_⟩
    obtain ⟨a, e3, ha⟩ := at_tie ht (k := (j : Int)) (by lia) (by lia)
    generalize tieN qs (j : Int) = p at ha q
    have t0 : atI ([.int p.1, .int p.2] : List V) 0 = some (.int p.1) := atI_nat (j := 0) rfl
    have t1 : atI ([.int p.1, .int p.2] : List V) 1 = some (.int p.2) := atI_nat (j := 1) rfl
    have hc1 := s1 _ _ hc'
    have hd1 := s1 _ _ hd
    have ha1 := s1 _ _ ha
    refine ⟨_, rfl, c, _, _, _, rfl, rfl, SqT.of hc1, i1, _, rfl, d, _, _, _, rfl, rfl, SqT.of hd1, e3, a, _, _, _, rfl, rfl, SqT.of ha1, t0, ?_⟩
    refine ⟨_, rfl, c, _, _, _, rfl, rfl, SqT.of hc1, i1, _, rfl, d, _, _, _, rfl, rfl, SqT.of hd1, e3, a, _, _, _, rfl, rfl, SqT.of ha1, t1, ?_⟩
    refine ⟨_, rfl, _, rfl, rfl, _, rfl, ?_⟩
    unfold drawnN drawnP at q
    by_cases he : p.1 = p.2
    · rw [decide_eq_true (show V.int p.1 = V.int p.2 by rw [he])]
      simp only [if_pos he] at q
      exact iteT ⟨_, rfl, q w1 H1 s1 W1⟩
    · rw [decide_eq_false (show ¬ V.int p.1 = V.int p.2 from fun z => he (by injection z))]
      simp only [if_neg he] at q
      refine iteF ?_
      obtain ⟨c1, d1, ys, rfl, hcr, hdr, htr⟩ := W1.ex
      have j1 : atI ([.int n, .ref d1] : List V) 1 = some (.ref d1) := atI_nat (j := 1) rfl
      have yl : ys.length = (wo qs j).length := Paired.length htr
      have wl := wo_len qs j
      refine ⟨_, rfl, c1, _, _, _, rfl, rfl, SqT.of hcr, j1, d1, rfl, ⟨_, SqT.of hdr⟩, comp_seq (k := .t) (a := d1) (xs := ys) (fun σ => ∃ u v, σ = [u, v, some (.int p.2), some (.int p.1)]) (fun i zs H2 => Same H1 H2 /\ Paired (TieAt H2) zs (((wo qs j).take i).map fun r => norm (mvL p.1 p.2 r.1, mvL p.1 p.2 r.2))) ⟨_, _, rfl⟩ ⟨Same.refl _, .nil⟩ (len_le_sizeLine (by lia)) (fun i zs H2 _ z => SqT.of (z.1 _ _ hdr)) ?_ ?_⟩
      · rintro i x zs σ H2 N hx ⟨u, v, rfl⟩ ⟨sm, hz⟩ hN
        obtain ⟨pr, e1, b, rfl, hb⟩ := Paired.at htr hx
        refine ⟨b, _, rfl, SqT.of (sm _ _ hb), rfl, _, _, rfl, _, _, rfl, rfl, ?_⟩
        dsimp only [gName, List.set]
        refine yesT ?_
        refine ⟨_, rfl, _, rfl, _, rfl, _, _, _, rfl, _, rfl, _, rfl, _, rfl, _, _, _, rfl, _, _, rfl, fun d2 hd2 => ?_⟩
        refine hN _ _ _ ⟨_, _, rfl⟩ ⟨sm.trans (Same.new hd2), ?_⟩ (by simp)
        rw [take_succ_of e1, List.map_append]
        exact L2.Paired.snoc (ties_same hz (Same.new hd2)) ⟨d2, rfl, upd_same⟩
      · rintro zs H2 ⟨sm, hz⟩ r hr2
        rw [yl, List.take_length] at hz
        have s3 := Same.new (o := HO.lst zs) hr2
        have h3 : (upd H2 r (.lst zs)) r = some (.lst zs) := upd_same
        generalize upd H2 r (.lst zs) = H3 at s3 h3 ⊢
        have s13 := sm.trans s3
        refine ⟨_, rfl, c, _, _, _, rfl, rfl, SqT.of (s13 _ _ hc1), i0, _, _, rfl, rfl, _, rfl, r, zs, rfl, .inl ⟨SqL.of h3, fun l hl => ⟨by show 2 <= sizeLine; decide, fun c2 hc2 => ?_⟩⟩⟩
        have s4 := Same.new (o := HO.tup zs) hl
        have s5 := Same.new (o := HO.tup [.int (n - 1), .ref l]) hc2
        refine q _ _ ((s1.trans s13).trans (s4.trans s5)) ⟨c2, l, zs, rfl, upd_same, s5 _ _ upd_same, ties_same hz (s3.trans (s4.trans s5))⟩
theorem scKind : FnScope ["web", "k", "tie", "others"] ["web", "k"] (defScope sKind) := ⟨rfl, rfl, rfl, by decide +kernel, rfl, by decide +kernel, by decide +kernel⟩
theorem nd5 : (["other", "k"] : List Str).Nodup := by decide +kernel
theorem d_kindI (T : Txt K mg) (S : Src K mg "kind_of" sKind ["web", "k"]) (DN : Def P w K mg base 3 "refuse_no_tie_of" ["web", "k"] spNoTieI) (DP : Def P w K mg base 1 "whole_pick" ["web"] spWPF)
    (DR : Def P w K mg base 2 "rank_of" ["web", "pick"] (spRank K)) (DRW : Def P w K mg base 3 "rank_of_web" ["web"] (spRankW K)) : Def P w K mg base 4 "kind_of" ["web", "k"] (spKindI K) := by
  refine S.def scKind (fun vs H Q E h => ?_) (fun f cdv A outer s H vs Q E hr h => ?_)
  · obtain ⟨_, _, _, _, rfl, _⟩ := h; rfl
  · obtain ⟨wv, n, ps, k, rfl, W, ⟨⟨n1, n9⟩, hb, hl8⟩, k0, kl, q⟩ := h
    obtain ⟨c, d, xs, rfl, hc', hd, ht⟩ := id W.ex
    have hr1 : Room 1 _ := hr.mono (by decide)
    have hr2 : Room 2 _ := hr.mono (by decide)
    have hr3 : Room 3 _ := hr.mono (by decide)
    refine ⟨_, pss_cons (ps_expr (pe_def DN hr rfl (pa_cons (pv 0) (pa_cons (pv 1) pa_nil))))
      (pss_cons (ps_set (i := 2) scKind.nd rfl (Or.inl rfl) (pe_ix (ix_tupK K) (pe_ix (ix_tupK K) (pv 0) pe_int (fun _ _ => rfl)) (pv 1) (fun _ _ => rfl)))
      (pss_cons (ps_if (pt_cmpR op_eq (pe_ix (ix_tupK K) (pv 2) pe_int (fun _ _ => rfl)) (pe_ix (ix_tupK K) (pv 2) pe_int (fun _ _ => rfl)) (nomark _)) (pss_one (ps_ret pe_str)) pss_nil)
      (pss_cons (ps_set (i := 3) scKind.nd rfl (Or.inl rfl) (pe_callTy (call_tuple_ofK K) rfl T.tuple boot_tuple' (pa_cons (pe_comp (N' := ["other", "k"]) (fr := [none, some 1]) (compOk_of (by rfl)) rfl (pi_seqK K .t (pe_def DP hr1 rfl (pa_cons (pv 0) pa_nil)))
        (fun _ _ _ _ => pg_name (i := 0) nd5 rfl (Or.inl rfl) (Or.inr rfl)) (fun _ _ _ _ => pifs_one (pt_cmpR op_ne (pv 0) (pv 1) (nomark _))) (fun _ _ _ _ => pv 0)) pa_nil)))
      (pss_cons (ps_if (pt_cmpR op_lt (pe_def DR hr2 rfl (pa_cons (pv 0) (pa_cons (pv 3) pa_nil))) (pe_def DRW hr3 rfl (pa_cons (pv 0) pa_nil)) (nomark _)) (pss_one (ps_ret pe_str)) pss_nil)
      (pss_one (ps_ret pe_str)))))), ?_⟩
    have i1 : atI ([.int n, .ref d] : List V) 1 = some (.ref d) := atI_nat (j := 1) rfl
    have i0 : atI ([.int n, .ref d] : List V) 0 = some (.int n) := atI_nat (j := 0) rfl
    refine ⟨_, rfl, _, rfl, .ref c, n, ps, k, rfl, W, k0, kl, ?_⟩
    obtain ⟨tc, et, htc⟩ := at_tie ht k0 kl
    refine ⟨_, rfl, c, _, _, _, rfl, rfl, SqT.of hc', i1, _, rfl, d, _, _, _, rfl, rfl, SqT.of hd, et, ?_⟩
    have t0 : atI ([.int (tieN ps k).1, .int (tieN ps k).2] : List V) 0 = some (.int (tieN ps k).1) := atI_nat (j := 0) rfl
    have t1 : atI ([.int (tieN ps k).1, .int (tieN ps k).2] : List V) 1 = some (.int (tieN ps k).2) := atI_nat (j := 1) rfl
    refine ⟨_, rfl, tc, _, _, _, rfl, rfl, SqT.of htc, t0, _, rfl, tc, _, _, _, rfl, rfl, SqT.of htc, t1, rfl, _, rfl, ?_⟩
    by_cases he : (tieN ps k).1 = (tieN ps k).2
    · rw [decide_eq_true (show V.int (tieN ps k).1 = V.int (tieN ps k).2 by rw [he])]
      refine iteT ?_
      have q' := q H (Same.refl H)
      unfold kindP at q'
      rw [if_pos he] at q'
      exact q'
    · rw [decide_eq_false (show ¬ V.int (tieN ps k).1 = V.int (tieN ps k).2 from fun z => he (by injection z))]
      refine iteF ?_
      unfold kindP at q
      rw [if_neg he] at q
      refine ⟨_, rfl, .ref c, n, ps, rfl, W, hl8, fun t H1 s1 ht1 => ?_⟩
      refine ⟨t, rfl, ⟨_, FzT.sq ht1⟩, comp_seq (k := .t) (a := t) (xs := (ups ps.length).map V.int) (fun σ => ∃ v, σ = [v, some (.int k)]) (fun j ys H2 => H2 = H1 /\ ys = (((ups ps.length).take j).filter fun j => !decide (j = k)).map V.int) ⟨_, rfl⟩ ⟨rfl, rfl⟩ (by rw [List.length_map, ups_len]; exact ten_line (by lia)) (fun j ys H2 _ z => by rw [z.1]; exact FzT.sq ht1) ?_ ?_⟩
      · rintro j x ys σ H2 N hx ⟨u, rfl⟩ ⟨rfl, rfl⟩ hN
        obtain ⟨h0, eh, rfl⟩ := get_int' hx
        dsimp only [gName, List.set]
        refine ⟨_, rfl, _, rfl, rfl, _, rfl, ?_⟩
        rw [dec_int]
        refine ite2 (fun z => ⟨_, rfl, ?_⟩) (fun z => ?_)
        · refine hN _ _ _ ⟨_, rfl⟩ ⟨rfl, ?_⟩ (by simp)
          rw [filt_take _ eh, if_pos z, List.map_append]
          rfl
        · refine hN _ _ _ ⟨_, rfl⟩ ⟨rfl, ?_⟩ (by simp)
          rw [filt_take _ eh, if_neg z, List.append_nil]
      · rintro ys H2 ⟨rfl, rfl⟩ p hp
        have el : ((ups (ps.length : Int)).map V.int).length = ps.length := by rw [List.length_map, ups_len]; lia
        rw [el, List.take_of_length_le (by rw [ups_len]; lia), show List.filter (fun j => !decide (j = k)) (ups ps.length) = oth ps.length k from rfl]
        have s2 := Same.new (o := HO.lst ((oth ps.length k).map V.int)) hp
        refine ⟨p, (oth ps.length k).map V.int, rfl, .inl ⟨SqL.of upd_same, fun l hl => ?_⟩⟩
        have s3 := Same.new (o := HO.tup ((oth ps.length k).map V.int)) hl
        have hl3 : (upd (upd H2 p (.lst ((oth ps.length k).map V.int))) l (.tup ((oth ps.length k).map V.int))) l = some (.tup ((oth ps.length k).map V.int)) := upd_same
        have s13 := (s1.trans s2).trans s3
        generalize upd (upd H2 p (.lst ((oth ps.length k).map V.int))) l (.tup ((oth ps.length k).map V.int)) = H3 at s13 hl3 ⊢
        refine ⟨_, rfl, _, rfl, .ref c, l, n, ps, oth ps.length k, rfl, W.same s13, n1, n9, hb, SqT.of hl3, oth_ks _ _, fun H4 s4 => ?_⟩
        have s14 := s13.trans s4
        refine ⟨_, rfl, .ref c, n, ps, rfl, W.same s14, n1, n9, hb, hl8, fun H6 s6 => ⟨_, _, rfl, rfl, _, rfl, ?_⟩⟩
        have q' := q H6 (s14.trans s6)
        show if decide (rkP n ps (oth ps.length k) < rkAll n ps) = true then _ else _
        by_cases hlt : rkP n ps (oth ps.length k) < rkAll n ps
        · rw [decide_eq_true hlt]
          rw [if_pos hlt] at q'
          exact iteT q'
        · rw [decide_eq_false hlt]
          rw [if_neg hlt] at q'
          exact iteF q'
end
open Builtin.Int (intBits)
def Stp.hd : Stp -> Nat
  | .fin => 0 | .curl _ _ => 1 | .bri _ _ => 2 | .frk _ _ _ => 3
def f2 (t r : V) : List (Str × V) := putF "rest" r (putF "tie" t [])
def f3 (t a b : V) : List (Str × V) := putF "within" b (putF "without" a (putF "tie" t []))
theorem s_tr : ¬ (("tie" : Str) = "rest") := by decide +kernel
theorem s_ti : ¬ (("tie" : Str) = "within") := by decide +kernel
theorem s_to : ¬ (("tie" : Str) = "without") := by decide +kernel
theorem s_oi : ¬ (("without" : Str) = "within") := by decide +kernel
theorem f2_rest (t r : V) : (f2 t r).lookup ("rest" : Str) = some r := by unfold f2; rw [lookup_putF, if_pos rfl]
theorem f3_in (t a b : V) : (f3 t a b).lookup ("within" : Str) = some b := by unfold f3; rw [lookup_putF, if_pos rfl]
theorem f3_out (t a b : V) : (f3 t a b).lookup ("without" : Str) = some a := by unfold f3; rw [lookup_putF, if_neg s_oi, lookup_putF, if_pos rfl]
def StepAt (CE CC CB CF : Addr) (H : Hp) : Stp -> V -> Prop
  | .fin, v => ∃ a dx, v = .ref a /\ H a = some (.ins CE dx [])
  | .curl t s, v => ∃ a dx r, v = .ref a /\ H a = some (.ins CC dx (f2 (.int t) r)) /\ StepAt CE CC CB CF H s r
  | .bri t s, v => ∃ a dx r, v = .ref a /\ H a = some (.ins CB dx (f2 (.int t) r)) /\ StepAt CE CC CB CF H s r
  | .frk t x y, v => ∃ a dx r u, v = .ref a /\ H a = some (.ins CF dx (f3 (.int t) r u)) /\ StepAt CE CC CB CF H x r /\ StepAt CE CC CB CF H y u
theorem StepAt.same {CE CC CB CF : Addr} {H H' : Hp} (s : Same H H') : ∀ {S : Stp} {v : V}, StepAt CE CC CB CF H S v -> StepAt CE CC CB CF H' S v
  | .fin, _, ⟨a, dx, e, h⟩ => ⟨a, dx, e, s _ _ h⟩
  | .curl _ _, _, ⟨a, dx, r, e, h, z⟩ => ⟨a, dx, r, e, s _ _ h, StepAt.same s z⟩
  | .bri _ _, _, ⟨a, dx, r, e, h, z⟩ => ⟨a, dx, r, e, s _ _ h, StepAt.same s z⟩
  | .frk _ _ _, _, ⟨a, dx, r, u, e, h, z, y⟩ => ⟨a, dx, r, u, e, s _ _ h, StepAt.same s z, StepAt.same s y⟩
def MetO (K : W.Frag) (C : Addr) (m qn : Str) (st : Stmt) (ps : List Str) : Prop := ∃ f fd, Meth K C m f /\ Fun K m qn st f fd /\ Binds K fd ps []
def MkO (K : W.Frag) (C : Addr) (qn : Str) (st : Stmt) (ps : List Str) : Prop := ∃ f fd, Mk K C f /\ Fun K "__init__" qn st f fd /\ Binds K fd ps []
def spInit2 (C : Addr) : Sp := fun vs H Q _ => ∃ (p dx : Addr) (t r : V), vs = [.ref p, t, r] /\ H p = some (.ins C dx []) /\ Q .non (upd H p (.ins C dx (f2 t r)))
def spInit3 (C : Addr) : Sp := fun vs H Q _ => ∃ (p dx : Addr) (t r u : V), vs = [.ref p, t, r, u] /\ H p = some (.ins C dx []) /\ Q .non (upd H p (.ins C dx (f3 t r u)))
structure StK (K : W.Frag) (mg : Str -> Option Value) (CE CC CB CF : Addr) : Prop where
  clE : Cls K CE
  clC : Cls K CC
  clB : Cls K CB
  clF : Cls K CF
  c1 : NoAttr K CC "tie"
  c2 : NoAttr K CC "rest"
  b1 : NoAttr K CB "tie"
  b2 : NoAttr K CB "rest"
  x1 : NoAttr K CF "tie"
  x2 : NoAttr K CF "without"
  x3 : NoAttr K CF "within"
  mE : Mk0 K CE
  iC : MkO K CC "Curl.__init__" sCInit ["self", "tie", "rest"]
  iB : MkO K CB "Bridge.__init__" sBInit ["self", "tie", "rest"]
  iF : MkO K CF "Fork.__init__" sFInit ["self", "tie", "without", "within"]
  gE : mg "End" = some (.ref CE)
  gC : mg "Curl" = some (.ref CC)
  gB : mg "Bridge" = some (.ref CB)
  gF : mg "Fork" = some (.ref CF)
section
variable {P : Program} {w : World} {K : W.Frag} {mg : Str -> Option Value} {base : Heap} {CE CC CB CF : Addr}
theorem scCI : FnScope ["self", "tie", "rest"] ["self", "tie", "rest"] (defScope sCInit) := ⟨rfl, rfl, rfl, by decide +kernel, rfl, by decide +kernel, by decide +kernel⟩
theorem ok_CI {f C : Addr} {fd : FuncData} (F : Fun K "__init__" "Curl.__init__" sCInit f fd) (cl : Cls K C) (n1 : NoAttr K C "tie") (n2 : NoAttr K C "rest") : FnOk P w K mg base CX0 1 f fd ["self", "tie", "rest"] (spInit2 C) := by
  refine F.ok scCI (fun vs H Q E h => ?_) (fun cdv A outer s H vs Q E hr h => ?_)
  · obtain ⟨_, _, _, _, rfl, _⟩ := h; rfl
  · obtain ⟨p, dx, t, r, rfl, hp, q⟩ := h
    refine ⟨_, pss_cons (ps_fld (pv 0) (pv 1) rfl) (pss_one (ps_fld (pv 0) (pv 2) rfl)), ?_⟩
    refine ⟨_, rfl, _, rfl, p, C, dx, [], rfl, hp, cl, n1, (by show 0 < 1000; decide), _, rfl, _, rfl, p, C, dx, _, rfl, upd_same, cl, n2, (by show 1 < 1000; decide), ?_⟩
    rw [upd_upd]
    exact q
theorem scBI : FnScope ["self", "tie", "rest"] ["self", "tie", "rest"] (defScope sBInit) := ⟨rfl, rfl, rfl, by decide +kernel, rfl, by decide +kernel, by decide +kernel⟩
theorem ok_BI {f C : Addr} {fd : FuncData} (F : Fun K "__init__" "Bridge.__init__" sBInit f fd) (cl : Cls K C) (n1 : NoAttr K C "tie") (n2 : NoAttr K C "rest") : FnOk P w K mg base CX0 1 f fd ["self", "tie", "rest"] (spInit2 C) := by
  refine F.ok scBI (fun vs H Q E h => ?_) (fun cdv A outer s H vs Q E hr h => ?_)
  · obtain ⟨_, _, _, _, rfl, _⟩ := h; rfl
  · obtain ⟨p, dx, t, r, rfl, hp, q⟩ := h
    refine ⟨_, pss_cons (ps_fld (pv 0) (pv 1) rfl) (pss_one (ps_fld (pv 0) (pv 2) rfl)), ?_⟩
    refine ⟨_, rfl, _, rfl, p, C, dx, [], rfl, hp, cl, n1, (by show 0 < 1000; decide), _, rfl, _, rfl, p, C, dx, _, rfl, upd_same, cl, n2, (by show 1 < 1000; decide), ?_⟩
    rw [upd_upd]
    exact q
theorem scFI : FnScope ["self", "tie", "without", "within"] ["self", "tie", "without", "within"] (defScope sFInit) := ⟨rfl, rfl, rfl, by decide +kernel, rfl, by decide +kernel, by decide +kernel⟩
theorem ok_FI {f C : Addr} {fd : FuncData} (F : Fun K "__init__" "Fork.__init__" sFInit f fd) (cl : Cls K C) (n1 : NoAttr K C "tie") (n2 : NoAttr K C "without") (n3 : NoAttr K C "within") : FnOk P w K mg base CX0 1 f fd ["self", "tie", "without", "within"] (spInit3 C) := by
  refine F.ok scFI (fun vs H Q E h => ?_) (fun cdv A outer s H vs Q E hr h => ?_)
  · obtain ⟨_, _, _, _, _, rfl, _⟩ := h; rfl
  · obtain ⟨p, dx, t, r, u, rfl, hp, q⟩ := h
    refine ⟨_, pss_cons (ps_fld (pv 0) (pv 1) rfl) (pss_cons (ps_fld (pv 0) (pv 2) rfl) (pss_one (ps_fld (pv 0) (pv 3) rfl))), ?_⟩
    refine ⟨_, rfl, _, rfl, p, C, dx, [], rfl, hp, cl, n1, (by show 0 < 1000; decide), _, rfl, _, rfl, p, C, dx, _, rfl, upd_same, cl, n2, (by show 1 < 1000; decide), ?_⟩
    rw [upd_upd]
    refine ⟨_, rfl, _, rfl, p, C, dx, _, rfl, upd_same, cl, n3, ?_, ?_⟩
    · show (putF "without" r [(("tie" : Str), t)]).length < 1000
      show (if ("tie" : Str) = "without" then _ else _ : List (Str × V)).length < 1000
      rw [if_neg s_to]
      show 2 < 1000
      decide
    rw [upd_upd]
    exact q
end
def spDown (K : W.Frag) (CE CC CB CF : Addr) (d : Nat) : Sp := fun vs H Q _ => ∃ (wv : V) (nu od : Addr) (n : Int) (ps : List (Int × Int)) (nums ord : List Int), vs = [wv, .ref nu, .ref od] /\ WebAt H wv n ps /\ FzT H nu (nums.map V.int) /\ SqT K H od (ord.map V.int) /\ OkS d n ps nums ord /\ d <= 8 /\
  ∀ v H', Same H H' -> StepAt CE CC CB CF H' (stpM d n ps nums ord) v -> Q v H'
def spStepsO (K : W.Frag) (CE CC CB CF : Addr) : Sp := fun vs H Q _ => ∃ (kd : Kd) (wv o : V) (n : Int) (ps : List (Int × Int)) (ord : List Int), vs = [wv, o] /\ WebAt H wv n ps /\ WebOk n ps /\ NrmP ps /\ OrdAt kd H o ps.length ord /\
  ∀ v H', Same H H' -> StepAt CE CC CB CF H' (stpM ps.length n ps (ups ps.length) ord) v -> Q v H'
theorem made_same {H : Hp} {x dx : Addr} {o1 o2 o3 : HO} (nx : H x = none) (nd : H dx = none) : Same H (upd (upd (upd H dx o1) x o2) x o3) := fun b o e => by
  rw [upd_ne (ne_of_none e nx), upd_ne (ne_of_none e nx), upd_ne (ne_of_none e nd)]
  exact e
theorem at_last' {xs : List V} {v : V} : atI (xs ++ [v]) (-1) = some v := atI_last _ _
theorem cut_but (xs : List V) (y : V) : cutV (xs ++ [y]) none (some (-1)) = xs := by
  unfold cutV
  rw [show HT.sIx (xs ++ [y]).length 0 none = 0 from rfl]
  have e : HT.sIx (xs ++ [y]).length (xs ++ [y]).length (some (-1)) = xs.length := by
    show (if (-1 : Int) < 0 then ((-1 : Int) + ((xs ++ [y]).length : Int)).toNat else min (-1 : Int).toNat (xs ++ [y]).length) = xs.length
    rw [if_pos (by decide), List.length_append, List.length_singleton]
    lia
  rw [e, List.drop_zero, Nat.sub_zero, List.take_left]
theorem wo_map (nums : List Int) (j : Nat) : (nums.map V.int).take j ++ (nums.map V.int).drop (j + 1) = (wo nums j).map V.int := by
  unfold wo
  rw [List.map_append, List.map_take, List.map_drop]
theorem str_bc : ¬ (("bridge" : Str) = "curl") := by decide +kernel
theorem str_pc : ¬ (("plain" : Str) = "curl") := by decide +kernel
theorem str_pb : ¬ (("plain" : Str) = "bridge") := by decide +kernel
section
variable {P : Program} {w : World} {K : W.Frag} {mg : Str -> Option Value} {base : Heap} {CE CC CB CF : Addr}
theorem scDown : FnScope ["web", "numbers", "order", "tie", "ahead", "k", "others", "kind", "within"] ["web", "numbers", "order"] (defScope sDown) := ⟨rfl, rfl, rfl, by decide +kernel, rfl, by decide +kernel, by decide +kernel⟩
theorem d_down0 (T : StK K mg CE CC CB CF) (S : Src K mg "steps_down" sDown ["web", "numbers", "order"]) : Def P w K mg base (6 + 0) "steps_down" ["web", "numbers", "order"] (spDown K CE CC CB CF 0) := by
  refine S.def (k := 5) scDown (fun vs H Q E h => ?_) (fun f cdv A outer s H vs Q E hr h => ?_)
  · obtain ⟨_, _, _, _, _, _, _, rfl, _⟩ := h; rfl
  · obtain ⟨wv, nu, od, n, ps, nums, ord, rfl, W, hnu, hod, ok, d8, q⟩ := h
    refine ⟨_, pss_cons (ps_if (pt_not (pt_truth (pv 2) (fun _ => rfl))) (pss_one (ps_ret (pe_makeE T.mE rfl T.gE))) pss_nil) pss_never, ?_⟩
    have e : ord = [] := List.length_eq_zero_iff.mp (ok.pm.length_eq.trans ok.nl)
    subst e
    refine ⟨_, rfl, false, .inr (.inl ⟨[], hod, rfl⟩), iteT ?_⟩
    intro x dx nx ndx nex
    refine q (.ref x) _ (fun b o e => ?_) ⟨x, dx, rfl, upd_same⟩
    rw [upd_ne (ne_of_none e nx), upd_ne (ne_of_none e ndx)]
    exact e
theorem d_down1 {d : Nat} (T : StK K mg CE CC CB CF) (S : Src K mg "steps_down" sDown ["web", "numbers", "order"]) (DK : Def P w K mg base 4 "kind_of" ["web", "k"] (spKindI K)) (DL : Def P w K mg base 4 "left_out" ["web", "k"] spLeftI) (DW : Def P w K mg base 5 "drawn_together" ["web", "k"] spDrawnI) (DD : Def P w K mg base (6 + d) "steps_down" ["web", "numbers", "order"] (spDown K CE CC CB CF d)) : Def P w K mg base (6 + (d + 1)) "steps_down" ["web", "numbers", "order"] (spDown K CE CC CB CF (d + 1)) := by
  obtain ⟨fc, dc, MC, FC, bC⟩ := T.iC
  obtain ⟨fb, db, MB, FB, bB⟩ := T.iB
  obtain ⟨ff, df, MF, FF, bF⟩ := T.iF
  have GC : FnOk P w K mg base CX0 1 fc dc ["self", "tie", "rest"] (spInit2 CC) := ok_CI FC T.clC T.c1 T.c2
  have GB : FnOk P w K mg base CX0 1 fb db ["self", "tie", "rest"] (spInit2 CB) := ok_BI FB T.clB T.b1 T.b2
  have GF : FnOk P w K mg base CX0 1 ff df ["self", "tie", "without", "within"] (spInit3 CF) := ok_FI FF T.clF T.x1 T.x2 T.x3
  refine S.def (k := 6 + d) scDown (fun vs H Q E h => ?_) (fun f cdv A outer s H vs Q E hr h => ?_)
  · obtain ⟨_, _, _, _, _, _, _, rfl, _⟩ := h; rfl
  · obtain ⟨wv, nu, od, n, ps, nums, ord, rfl, W, hnu, hod, ok, d8, q⟩ := h
    have hr2 : Room 2 _ := hr.mono (by lia)
    have hr4 : Room 4 _ := hr.mono (by lia)
    have hr5 : Room 5 _ := hr.mono (by lia)
    refine ⟨_, pss_cons (ps_if (pt_not (pt_truth (pv 2) (fun _ => rfl))) (pss_one (ps_ret (pe_makeE T.mE rfl T.gE))) pss_nil)
      (pss_cons (ps_set (i := 3) scDown.nd rfl (Or.inl rfl) (pe_ix (ix_tupK K) (pv 2) (pe_un un_neg pe_int) (fun _ _ => rfl)))
      (pss_cons (ps_set (i := 4) scDown.nd rfl (Or.inl rfl) (pe_slice (sl_tupK K) (pv 2) po_none (po_some (pe_un un_neg pe_int))))
      (pss_cons (ps_set (i := 5) scDown.nd rfl (Or.inl rfl) (pe_bmF PySem.F.plainAttrs_tuple PySem.F.slot_tuple_index PySem.F.type_tuple_index mt_tindex (pv 1) (pa_cons (pv 3) pa_nil)))
      (pss_cons (ps_set (i := 6) scDown.nd rfl (Or.inl rfl) (pe_op op_catF (pe_slice sl_tupF (pv 1) po_none (po_some (pv 5))) (pe_slice sl_tupF (pv 1) (po_some (pe_op op_add (pv 5) pe_int)) po_none)))
      (pss_cons (ps_set (i := 7) scDown.nd rfl (Or.inl rfl) (pe_def DK hr4 rfl (pa_cons (pv 0) (pa_cons (pv 5) pa_nil))))
      (pss_cons (ps_if (pt_cmpR op_eq (pv 7) pe_str (nomark _)) (pss_one (ps_ret (pe_make MC GC hr2 rfl T.gC bC .nil pass0 (pa_cons (pv 3) (pa_cons (pe_def DD hr rfl (pa_cons (pe_def DL hr4 rfl (pa_cons (pv 0) (pa_cons (pv 5) pa_nil))) (pa_cons (pv 6) (pa_cons (pv 4) pa_nil)))) pa_nil))))) pss_nil)
      (pss_cons (ps_set (i := 8) scDown.nd rfl (Or.inl rfl) (pe_def DD hr rfl (pa_cons (pe_def DW hr5 rfl (pa_cons (pv 0) (pa_cons (pv 5) pa_nil))) (pa_cons (pv 6) (pa_cons (pv 4) pa_nil)))))
      (pss_cons (ps_if (pt_cmpR op_eq (pv 7) pe_str (nomark _)) (pss_one (ps_ret (pe_make MB GB hr2 rfl T.gB bB .nil pass0 (pa_cons (pv 3) (pa_cons (pv 8) pa_nil))))) pss_nil)
      (pss_one (ps_ret (pe_make MF GF hr2 rfl T.gF bF .nil pass0 (pa_cons (pv 3) (pa_cons (pe_def DD hr rfl (pa_cons (pe_def DL hr4 rfl (pa_cons (pv 0) (pa_cons (pv 5) pa_nil))) (pa_cons (pv 6) (pa_cons (pv 4) pa_nil)))) (pa_cons (pv 8) pa_nil)))))))))))))), ?_⟩
    obtain ⟨oe, _⟩ := ok.last
    obtain ⟨jl, jat⟩ := ok.at
    have okL := ok.left
    have okD := ok.draw
    have nl := ok.nl
    have pl := ok.len
    have nd := ok.nd
    have W0 := ok.ok
    obtain ⟨⟨n1, n9⟩, hb, h8⟩ := id W0
    unfold stpM at q
    generalize ord.dropLast = ah at oe okL okD q
    generalize ord.getLastD 0 = tie at oe jl jat okL okD q
    generalize nums.idxOf tie = j at jl jat okL okD q
    subst oe
    have hod' : SqT K H od (ah.map V.int ++ [.int tie]) := by rw [List.map_append] at hod; exact hod
    refine ⟨_, rfl, true, .inr (.inl ⟨_, hod', by cases ah <;> rfl⟩), iteF ?_⟩
    refine ⟨_, rfl, _, rfl, od, _, _, _, rfl, rfl, hod', at_last', ?_⟩
    refine ⟨_, rfl, _, rfl, _, rfl, od, _, rfl, hod', ?_, fun p1 hp1 => ?_⟩
    · rintro ⟨_, z⟩
      have e : HT.sIx (ah.map V.int ++ [V.int tie]).length (ah.map V.int ++ [V.int tie]).length (some (-1)) = ah.length := by
        show (if (-1 : Int) < 0 then ((-1 : Int) + ((ah.map V.int ++ [V.int tie]).length : Int)).toNat else min (-1 : Int).toNat (ah.map V.int ++ [V.int tie]).length) = ah.length
        rw [if_pos (by decide), List.length_append, List.length_singleton, List.length_map]
        lia
      rw [e, List.length_append, List.length_singleton, List.length_map] at z
      lia
    rw [cut_but]
    have s1 := Same.new (o := HO.tup (ah.map V.int)) hp1
    have h1 : (upd H p1 (.tup (ah.map V.int))) p1 = some (.tup (ah.map V.int)) := upd_same
    generalize upd H p1 (.tup (ah.map V.int)) = H1 at s1 h1 ⊢
    have hnu1 := hnu.same s1
    dsimp only [List.set]
    refine ⟨_, rfl, ⟨nu, _, rfl, hnu1⟩, _, rfl, nu, nums, tie, j, rfl, rfl, hnu1.sq, jat, fun m hm z => ?_, ?_⟩
    · have zm := (List.getElem?_eq_some_iff.mp z)
      have jm := (List.getElem?_eq_some_iff.mp jat)
      have := (List.getElem_inj nd).mp (zm.2.trans jm.2.symm)
      lia
    refine ⟨_, rfl, _, rfl, _, rfl, nu, _, rfl, hnu1.sq, ?_, fun p2 H2 s2 hp2 => ?_⟩
    · rintro ⟨_, z⟩
      rw [HT.sIx_nat, List.length_map] at z
      lia
    rw [cut_preP] at hp2
    have hnu2 := hnu1.same s2
    refine ⟨_, rfl, _, rfl, _, _, rfl, rfl, _, rfl, nu, _, rfl, hnu2.sq, ?_, fun p3 H3 s3 hp3 => ?_⟩
    · rintro ⟨z, _⟩
      rw [show ((j : Int) + 1) = ((j + 1 : Nat) : Int) by lia, HT.sIx_nat, List.length_map] at z
      lia
    rw [cut_suf] at hp3
    refine ⟨p2, p3, _, _, rfl, rfl, hp2.same s3, hp3, ?_, fun p4 H4 s4 hp4 => ?_⟩
    · rw [List.length_take, List.length_drop, List.length_map]
      exact Nat.le_trans (show _ <= 16 by lia) (by decide)
    rw [wo_map] at hp4
    have s04 := s1.trans (s2.trans (s3.trans s4))
    have h4 := (s2.trans (s3.trans s4)) _ _ h1
    clear hp2 hp3 hnu1 hnu2
    dsimp only [List.set]
    refine ⟨_, rfl, _, rfl, wv, n, ps, (j : Int), rfl, W.same s04, W0, by lia, by lia, fun H5 s5 => ?_⟩
    have s05 := s04.trans s5
    have h5 := s5 _ _ h4
    have hp5 := hp4.same s5
    have d8' : d <= 8 := by lia
    unfold kindP
    dsimp only [List.set]
    refine ⟨_, rfl, rfl, _, rfl, ?_⟩
    by_cases hc : (tieN ps j).1 = (tieN ps j).2
    · rw [if_pos hc] at q ⊢
      rw [decide_eq_true rfl]
      refine iteT ?_
      refine ⟨_, rfl, _, rfl, _, rfl, wv, n, ps, j, rfl, W.same s05, h8, jl, fun w6 H6 s6 W6 => ?_⟩
      refine ⟨_, rfl, _, rfl, w6, p4, p1, n, wo ps j, wo nums j, ah, rfl, W6, hp5.same s6, SqT.of (s6 _ _ h5), okL, d8', fun v H7 s7 st => ?_⟩
      intro x dx nx ndx nex
      refine ⟨x, dx, .int tie, v, rfl, upd_same, rfl, ?_⟩
      have sm := made_same (o1 := .own x) (o2 := .ins CC dx []) (o3 := .ins CC dx (f2 (.int tie) v)) nx ndx
      exact q (.ref x) _ (s05.trans (s6.trans (s7.trans sm))) ⟨x, dx, v, rfl, upd_same, st.same sm⟩
    · rw [if_neg hc] at q ⊢
      have ok2 := okD hc
      have dN : drawnN n (tieN ps j) = n - 1 := if_neg hc
      by_cases hbr : rkP n ps (oth ps.length j) < rkAll n ps
      · rw [if_pos hbr] at q ⊢
        rw [decide_eq_false (show ¬ V.str "bridge" = V.str "curl" from fun z => str_bc (by injection z))]
        refine iteF ?_
        refine ⟨_, rfl, _, rfl, wv, n, ps, j, rfl, W.same s05, h8, jl, fun w6 H6 s6 W6 => ?_⟩
        rw [dN] at W6
        refine ⟨_, rfl, _, rfl, w6, p4, p1, n - 1, drawnP ps j (tieN ps j), wo nums j, ah, rfl, W6, hp5.same s6, SqT.of (s6 _ _ h5), ok2, d8', fun v H7 s7 st => ?_⟩
        dsimp only [List.set]
        refine ⟨_, rfl, rfl, _, rfl, ?_⟩
        rw [decide_eq_true rfl]
        refine iteT ⟨_, rfl, _, rfl, ?_⟩
        intro x dx nx ndx nex
        refine ⟨x, dx, .int tie, v, rfl, upd_same, rfl, ?_⟩
        have sm := made_same (o1 := .own x) (o2 := .ins CB dx []) (o3 := .ins CB dx (f2 (.int tie) v)) nx ndx
        exact q (.ref x) _ (s05.trans (s6.trans (s7.trans sm))) ⟨x, dx, v, rfl, upd_same, st.same sm⟩
      · rw [if_neg hbr] at q ⊢
        rw [decide_eq_false (show ¬ V.str "plain" = V.str "curl" from fun z => str_pc (by injection z))]
        refine iteF ?_
        refine ⟨_, rfl, _, rfl, wv, n, ps, j, rfl, W.same s05, h8, jl, fun w6 H6 s6 W6 => ?_⟩
        rw [dN] at W6
        refine ⟨_, rfl, _, rfl, w6, p4, p1, n - 1, drawnP ps j (tieN ps j), wo nums j, ah, rfl, W6, hp5.same s6, SqT.of (s6 _ _ h5), ok2, d8', fun v H7 s7 st => ?_⟩
        have s57 := s6.trans s7
        dsimp only [List.set]
        refine ⟨_, rfl, rfl, _, rfl, ?_⟩
        rw [decide_eq_false (show ¬ V.str "plain" = V.str "bridge" from fun z => str_pb (by injection z))]
        refine iteF ?_
        refine ⟨_, rfl, _, rfl, _, rfl, wv, n, ps, j, rfl, W.same (s05.trans s57), h8, jl, fun w8 H8 s8 W8 => ?_⟩
        refine ⟨_, rfl, _, rfl, w8, p4, p1, n, wo ps j, wo nums j, ah, rfl, W8, hp5.same (s57.trans s8), SqT.of ((s57.trans s8) _ _ h5), okL, d8', fun u H9 s9 su => ⟨_, rfl, ?_⟩⟩
        have s79 := s8.trans s9
        intro x dx nx ndx nex
        refine ⟨x, dx, .int tie, u, v, rfl, upd_same, rfl, ?_⟩
        have sm := made_same (o1 := .own x) (o2 := .ins CF dx []) (o3 := .ins CF dx (f3 (.int tie) u v)) nx ndx
        exact q (.ref x) _ (s05.trans (s57.trans (s79.trans sm))) ⟨x, dx, u, v, rfl, upd_same, su.same sm, st.same (s79.trans sm)⟩
theorem d_down (T : StK K mg CE CC CB CF) (S : Src K mg "steps_down" sDown ["web", "numbers", "order"]) (DK : Def P w K mg base 4 "kind_of" ["web", "k"] (spKindI K)) (DL : Def P w K mg base 4 "left_out" ["web", "k"] spLeftI) (DW : Def P w K mg base 5 "drawn_together" ["web", "k"] spDrawnI) : ∀ d, Def P w K mg base (6 + d) "steps_down" ["web", "numbers", "order"] (spDown K CE CC CB CF d)
  | 0 => d_down0 T S
  | d + 1 => d_down1 T S DK DL DW (d_down T S DK DL DW d)
theorem scSteps : FnScope ["web", "order"] ["web", "order"] (defScope sSteps) := ⟨rfl, rfl, rfl, by decide +kernel, rfl, by decide +kernel, by decide +kernel⟩
theorem d_steps (S : SrcD K mg "steps_of" sSteps ["web", "order"]) (DP : Def P w K mg base 1 "whole_pick" ["web"] spWPF) (DT : Def P w K mg base 3 "told_order" ["web", "order"] (spTold K)) (DD : ∀ d, Def P w K mg base (6 + d) "steps_down" ["web", "numbers", "order"] (spDown K CE CC CB CF d)) : DefD P w K mg base 15 "steps_of" ["web", "order"] (spStepsO K CE CC CB CF) := by
  refine SrcD.defX S scSteps (fun vs H Q E h => ?_) (fun f cdv A outer s H vs Q E hr h => ?_)
  · obtain ⟨_, _, _, _, _, _, rfl, _⟩ := h; rfl
  · obtain ⟨kd, wv, o, n, ps, ord, rfl, W, ok, nm, oa, q⟩ := h
    obtain ⟨⟨n1, n9⟩, hb, h8⟩ := id ok
    have hr1 : Room 1 _ := hr.mono (by decide)
    have hr3 : Room 3 _ := hr.mono (by decide)
    have hrd : Room (6 + ps.length) _ := hr.mono (by lia)
    refine ⟨_, pss_one (ps_ret (pe_def (DD ps.length) hrd rfl (pa_cons (pv 0) (pa_cons (pe_def DP hr1 rfl (pa_cons (pv 0) pa_nil)) (pa_cons (pe_def DT hr3 rfl (pa_cons (pv 0) (pa_cons (pv 1) pa_nil))) pa_nil))))), ?_⟩
    refine ⟨_, rfl, _, rfl, wv, n, ps, rfl, W, h8, fun t H1 s1 hF => ⟨_, rfl, _, rfl, kd, wv, o, n, ps, ord, rfl, W.same s1, h8, oa.same s1, fun u H2 s2 hG => ?_⟩⟩
    have ul : (ups (ps.length : Int)).length = ps.length := by rw [ups_len]; lia
    exact ⟨wv, t, u, n, ps, ups ps.length, ord, rfl, W.same (s1.trans s2), hF.same s2, FzT.sq hG, ⟨ok, nm, rfl, ul, (ups_up _).imp fun h => by lia, oa.perm⟩, h8, fun v H3 s3 st => q v H3 (s1.trans (s2.trans s3)) st⟩
end
theorem natB {n : Nat} (h : n < 100000) : n < sizeLine := Nat.lt_of_lt_of_le h (by decide)
abbrev Lf := List Int × List Int × List Int
def insI (t : Int) : List Int -> List Int
  | [] => [t]
  | x :: l => if t <= x then t :: x :: l else x :: insI t l
theorem insI_perm (t : Int) : ∀ l : List Int, (insI t l).Perm (t :: l)
  | [] => List.Perm.refl _
  | x :: l => by
    unfold insI
    split
    · exact List.Perm.refl _
    · exact ((insI_perm t l).cons x).trans (List.Perm.swap t x l)
theorem insI_mem {t y : Int} {l : List Int} : y ∈ insI t l ↔ y = t \/ y ∈ l := by rw [(insI_perm t l).mem_iff, List.mem_cons]
theorem insI_len (t : Int) (l : List Int) : (insI t l).length = l.length + 1 := (insI_perm t l).length_eq
theorem insI_up {t : Int} : ∀ {l : List Int}, l.Pairwise (· <= ·) -> (insI t l).Pairwise (· <= ·)
  | [], _ => List.pairwise_singleton _ _
  | x :: l, h => by
    have h := List.pairwise_cons.mp h
    unfold insI
    split
    · next c => exact List.pairwise_cons.mpr ⟨fun y hy => by
        rcases List.mem_cons.mp hy with rfl | hy
        · exact c
        · exact Int.le_trans c (h.1 y hy), List.pairwise_cons.mpr h⟩
    · next c => exact List.pairwise_cons.mpr ⟨fun y hy => by
        rcases insI_mem.mp hy with rfl | hy
        · lia
        · exact h.1 y hy, insI_up h.2⟩
theorem insI_rise {t : Int} {l : List Int} (h : l.Pairwise (· < ·)) (nt : t ∉ l) : (insI t l).Pairwise (· < ·) := by
  have u := insI_up (t := t) (h.imp fun h => Int.le_of_lt h)
  have nd : (insI t l).Nodup := (insI_perm t l).nodup_iff.mpr (List.nodup_cons.mpr ⟨nt, h.imp fun h => by lia⟩)
  rw [List.pairwise_iff_getElem] at u ⊢
  intro i j hi hj hij
  have := u i j hi hj hij
  have ne : (insI t l)[i] ≠ (insI t l)[j] := fun z => by
    have := (List.getElem_inj nd).mp z
    lia
  lia
theorem insI_inj {t : Int} {l m : List Int} (hl : l.Pairwise (· < ·)) (hm : m.Pairwise (· < ·)) (nl : t ∉ l) (nm : t ∉ m) (e : insI t l = insI t m) : l = m := by
  have p : (t :: l).Perm (t :: m) := ((insI_perm t l).symm.trans (by rw [e])).trans (insI_perm t m)
  exact perm_up (List.Perm.cons_inv p) (hl.imp fun h => Int.le_of_lt h) (hm.imp fun h => Int.le_of_lt h)
def toN (x : Lf) : List (List Int) := [x.1, x.2.1, x.2.2]
def ofN : List (List Int) -> Lf
  | [a, b, c] => (a, b, c)
  | _ => ([], [], [])
def lC (t : Int) (x : Lf) : Lf := (x.1, x.2.1, insI t x.2.2)
def lB (t : Int) (x : Lf) : Lf := (insI t x.1, insI t x.2.1, x.2.2)
def lF (t : Int) (x : Lf) : Lf := (insI t x.1, x.2.1, x.2.2)
def lvs : Stp -> List Lf
  | .fin => [([], [], [])]
  | .curl t s => (lvs s).map (lC t)
  | .bri t s => (lvs s).map (lB t)
  | .frk t a b => lvs a ++ (lvs b).map (lF t)
def Up3 (x : Lf) : Prop := x.1.Pairwise (· <= ·) /\ x.2.1.Pairwise (· <= ·) /\ x.2.2.Pairwise (· <= ·)
def Len3 (d : Nat) (x : Lf) : Prop := x.1.length <= d /\ x.2.1.length <= d /\ x.2.2.length <= d
theorem lvs_up : ∀ (S : Stp), ∀ x ∈ lvs S, Up3 x /\ Len3 S.deep x
  | .fin, x, h => by rw [List.mem_singleton.mp h]; exact ⟨⟨.nil, .nil, .nil⟩, Nat.le_refl _, Nat.le_refl _, Nat.le_refl _⟩
  | .curl t s, x, h => by
    obtain ⟨y, hy, rfl⟩ := List.mem_map.mp h
    obtain ⟨⟨u1, u2, u3⟩, l1, l2, l3⟩ := lvs_up s y hy
    refine ⟨⟨u1, u2, insI_up u3⟩, ?_, ?_, ?_⟩
    · show y.1.length <= s.deep + 1; lia
    · show y.2.1.length <= s.deep + 1; lia
    · show (insI t y.2.2).length <= s.deep + 1; rw [insI_len]; lia
  | .bri t s, x, h => by
    obtain ⟨y, hy, rfl⟩ := List.mem_map.mp h
    obtain ⟨⟨u1, u2, u3⟩, l1, l2, l3⟩ := lvs_up s y hy
    refine ⟨⟨insI_up u1, insI_up u2, u3⟩, ?_, ?_, ?_⟩
    · show (insI t y.1).length <= s.deep + 1; rw [insI_len]; lia
    · show (insI t y.2.1).length <= s.deep + 1; rw [insI_len]; lia
    · show y.2.2.length <= s.deep + 1; lia
  | .frk t a b, x, h => by
    have e : (Stp.frk t a b).deep = max a.deep b.deep + 1 := rfl
    rcases List.mem_append.mp h with h | h
    · obtain ⟨u, l1, l2, l3⟩ := lvs_up a x h
      exact ⟨u, by lia, by lia, by lia⟩
    · obtain ⟨y, hy, rfl⟩ := List.mem_map.mp h
      obtain ⟨⟨u1, u2, u3⟩, l1, l2, l3⟩ := lvs_up b y hy
      refine ⟨⟨insI_up u1, u2, u3⟩, ?_, ?_, ?_⟩
      · show (insI t y.1).length <= _; rw [insI_len]; lia
      · show y.2.1.length <= _; lia
      · show y.2.2.length <= _; lia
theorem lvs_len : ∀ S : Stp, (lvs S).length <= 2 ^ S.deep
  | .fin => Nat.le_refl _
  | .curl t s => by
    show ((lvs s).map (lC t)).length <= 2 ^ (s.deep + 1)
    have := lvs_len s
    rw [List.length_map, Nat.pow_succ]
    lia
  | .bri t s => by
    show ((lvs s).map (lB t)).length <= 2 ^ (s.deep + 1)
    have := lvs_len s
    rw [List.length_map, Nat.pow_succ]
    lia
  | .frk t a b => by
    show (lvs a ++ (lvs b).map (lF t)).length <= 2 ^ (max a.deep b.deep + 1)
    have h1 := lvs_len a
    have h2 := lvs_len b
    have g1 : 2 ^ a.deep <= 2 ^ (max a.deep b.deep) := Nat.pow_le_pow_right (by decide) (Nat.le_max_left _ _)
    have g2 : 2 ^ b.deep <= 2 ^ (max a.deep b.deep) := Nat.pow_le_pow_right (by decide) (Nat.le_max_right _ _)
    rw [List.length_append, List.length_map, Nat.pow_succ]
    lia
def LvIs (S : Stp) (M : List Lf) : Prop := M.Perm (lvs S) /\ (M.map toN).Pairwise NLe
theorem sort_back {M : List Lf} {L : List (List (List Int))} (p : L.Perm (M.map toN)) : ∃ M' : List Lf, L = M'.map toN /\ M'.Perm M := by
  refine ⟨L.map ofN, ?_, ?_⟩
  · rw [List.map_map]
    refine Eq.symm (Eq.trans (List.map_congr_left (g := id) fun x hx => ?_) (List.map_id _))
    obtain ⟨y, _, rfl⟩ := List.mem_map.mp (p.subset hx)
    rfl
  · have := p.map ofN
    rw [List.map_map] at this
    have i : ofN ∘ toN = id := rfl
    rw [i, List.map_id] at this
    exact this
theorem s_lr : ¬ (("leaves" : Str) = "rest") := by decide +kernel
theorem s_lt : ¬ (("leaves" : Str) = "tie") := by decide +kernel
theorem s_li : ¬ (("leaves" : Str) = "within") := by decide +kernel
theorem s_lo : ¬ (("leaves" : Str) = "without") := by decide +kernel
theorem s_mr : ¬ (("many" : Str) = "rest") := by decide +kernel
theorem s_mt : ¬ (("many" : Str) = "tie") := by decide +kernel
theorem s_mi : ¬ (("many" : Str) = "within") := by decide +kernel
theorem s_mo : ¬ (("many" : Str) = "without") := by decide +kernel
theorem f2_lv (t r : V) : (f2 t r).lookup ("leaves" : Str) = none := by unfold f2; rw [lookup_putF, if_neg s_lr, lookup_putF, if_neg s_lt]; rfl
theorem f3_lv (t a b : V) : (f3 t a b).lookup ("leaves" : Str) = none := by unfold f3; rw [lookup_putF, if_neg s_li, lookup_putF, if_neg s_lo, lookup_putF, if_neg s_lt]; rfl
theorem f2_my (t r : V) : (f2 t r).lookup ("many" : Str) = none := by unfold f2; rw [lookup_putF, if_neg s_mr, lookup_putF, if_neg s_mt]; rfl
theorem f3_my (t a b : V) : (f3 t a b).lookup ("many" : Str) = none := by unfold f3; rw [lookup_putF, if_neg s_mi, lookup_putF, if_neg s_mo, lookup_putF, if_neg s_mt]; rfl
theorem f2_tie (t r : V) : (f2 t r).lookup ("tie" : Str) = some t := by unfold f2; rw [lookup_putF, if_neg s_tr, lookup_putF, if_pos rfl]
theorem f3_tie (t a b : V) : (f3 t a b).lookup ("tie" : Str) = some t := by unfold f3; rw [lookup_putF, if_neg s_ti, lookup_putF, if_neg s_to, lookup_putF, if_pos rfl]
theorem pe_fldK {X : Cx} (K : W.Frag) {e : Expr} {ta : TE} {f : Str} {pos : Pos} (he : PE X e ta) (hb : attributeBase e f X.env (eval e X.env) = eval e X.env) (h : X.K = K := by rfl) : PE X (.Attribute e f pos) (tFld K ta f) := h ▸ pe_fld he hb
structure StL (K : W.Frag) (CE CC CB CF : Addr) : Prop where
  lE : MetO K CE "leaves" "End.leaves" sELv ["self"]
  lC : MetO K CC "leaves" "Curl.leaves" sCLv ["self"]
  lB : MetO K CB "leaves" "Bridge.leaves" sBLv ["self"]
  lF : MetO K CF "leaves" "Fork.leaves" sFLv ["self"]
  mE : MetO K CE "many" "End.many" sEMany ["self"]
  mC : MetO K CC "many" "Curl.many" sCMany ["self"]
  mB : MetO K CB "many" "Bridge.many" sBMany ["self"]
  mF : MetO K CF "many" "Fork.many" sFMany ["self"]
def LeafAt (H : Hp) (v : V) (x : Lf) : Prop := NestAt H v (toN x)
theorem leafs_same {H H' : Hp} {xs : List V} {M : List Lf} (h : Paired (LeafAt H) xs M) (s : Same H H') : Paired (LeafAt H') xs M := L2.Paired.mapP h fun _ _ q => q.same s
theorem LeafAt.ex {H : Hp} {v : V} {x : Lf} (h : LeafAt H v x) : ∃ a b c d, v = .ref a /\ H a = some (.tup [.ref b, .ref c, .ref d]) /\ H b = some (.tup (x.1.map V.int)) /\ H c = some (.tup (x.2.1.map V.int)) /\ H d = some (.tup (x.2.2.map V.int)) := by
  obtain ⟨a, ys, rfl, ha, hy⟩ := h
  unfold toN at hy
  cases hy with
  | cons h1 t1 =>
    cases t1 with
    | cons h2 t2 =>
      cases t2 with
      | cons h3 t3 =>
        cases t3
        obtain ⟨b, rfl, hb⟩ := h1
        obtain ⟨c, rfl, hc⟩ := h2
        obtain ⟨d, rfl, hd⟩ := h3
        exact ⟨a, b, c, d, rfl, ha, hb, hc, hd⟩
theorem LeafAt.mk {H : Hp} {a b c d : Addr} {x : Lf} (ha : H a = some (.tup [.ref b, .ref c, .ref d])) (hb : H b = some (.tup (x.1.map V.int))) (hc : H c = some (.tup (x.2.1.map V.int))) (hd : H d = some (.tup (x.2.2.map V.int))) : LeafAt H (.ref a) x := ⟨a, _, rfl, ha, .cons ⟨b, rfl, hb⟩ (.cons ⟨c, rfl, hc⟩ (.cons ⟨d, rfl, hd⟩ .nil))⟩
theorem nest_map {H : Hp} {xs : List V} {M : List Lf} (h : Paired (LeafAt H) xs M) : Paired (NestAt H) xs (M.map toN) := by
  induction h with
  | nil => exact .nil
  | cons r _ ih => exact .cons r ih
theorem nest_back {H : Hp} {xs : List V} : ∀ {M : List Lf}, Paired (NestAt H) xs (M.map toN) -> Paired (LeafAt H) xs M := by
  intro M h
  induction M generalizing xs with
  | nil => cases h; exact .nil
  | cons x M ih =>
    cases h with
    | cons r t => exact .cons r (ih t)
def spWith : Sp := fun vs H Q _ => ∃ (a : Addr) (l : List Int) (t : Int), vs = [.ref a, .int t] /\ H a = some (.tup (l.map V.int)) /\ l.Pairwise (· <= ·) /\ l.length <= 60 /\ ∀ p H', Same H H' -> H' p = some (.tup ((insI t l).map V.int)) -> Q (.ref p) H'
def spLvX (CE CC CB CF : Addr) (c d : Nat) : Sp := fun vs H Q _ => ∃ (v : V) (S : Stp), vs = [v] /\ StepAt CE CC CB CF H S v /\ S.hd = c /\ S.deep <= d /\ d <= 8 /\ ∀ l xs M H', Same H H' -> H l = none -> H' l = some (.lst xs) -> Paired (LeafAt H') xs M -> LvIs S M -> Q (.ref l) H'
def spMyX (CE CC CB CF : Addr) (c d : Nat) : Sp := fun vs H Q _ => ∃ (v : V) (S : Stp), vs = [v] /\ StepAt CE CC CB CF H S v /\ S.hd = c /\ S.deep <= d /\ d <= 8 /\ ∀ H', Same H H' -> Q (.int ((lvs S).length : Int)) H'
theorem lvs256 {S : Stp} {M : List Lf} (h : LvIs S M) (d8 : S.deep <= 8) : M.length <= 256 := by
  rw [h.1.length_eq]
  exact Nat.le_trans (lvs_len S) (Nat.pow_le_pow_right (by decide) d8)
section
variable {P : Program} {w : World} {K : W.Frag} {mg : Str -> Option Value} {base : Heap} {CE CC CB CF : Addr}
seal PSs PS PE PI PA PT PG
theorem scWith : FnScope ["ties", "tie"] ["ties", "tie"] (defScope sWith) := ⟨rfl, rfl, rfl, by decide +kernel, rfl, by decide +kernel, by decide +kernel⟩
theorem d_with (T : Txt K mg) (S : Src K mg "with_tie" sWith ["ties", "tie"]) : Def P w K mg base 1 "with_tie" ["ties", "tie"] spWith := by
  refine S.def scWith (fun vs H Q E h => ?_) (fun f cdv A outer s H vs Q E hr h => ?_)
  · obtain ⟨_, _, _, rfl, _⟩ := h; rfl
  · obtain ⟨a, l, t, rfl, ha, up, l60, q⟩ := h
    refine ⟨_, pss_one (ps_ret (pe_callTy (call_tuple_ofK K) rfl T.tuple boot_tuple' (pa_cons (pe_callB (call_sortedK .t) (by rfl) T.sorted boot_sorted' (pa_cons (pe_op (op_catAK K) (pv 0) (pe_tup (pa_cons (pv 1) pa_nil))) pa_nil)) pa_nil))), ?_⟩
    refine ⟨_, rfl, _, rfl, by show 1 <= sizeLine; decide, fun p1 hp1 => ?_⟩
    have s1 := Same.new (o := HO.tup [.int t]) hp1
    refine ⟨a, p1, _, _, rfl, rfl, s1 _ _ ha, upd_same, ?_, fun p2 H2 s2 hp2 => ?_⟩
    · rw [List.length_map]
      exact Nat.le_of_lt (Nat.lt_of_le_of_lt (show l.length + 1 <= 100 by lia) (by decide))
    have e2 : H2 p2 = some (.tup ((l ++ [t]).map V.int)) := by rw [hp2, List.map_append]; rfl
    refine ⟨p2, l ++ [t], rfl, SqT.of e2, by rw [List.length_append, List.length_singleton]; lia, fun g ms pm um hg => ?_⟩
    have em : ms = insI t l := perm_up (pm.trans ((List.perm_append_singleton t l).trans (insI_perm t l).symm)) um (insI_up up)
    refine ⟨g, _, rfl, .inl ⟨SqL.of upd_same, fun p hp => ?_⟩⟩
    refine q p _ ((s1.trans s2).trans ((Same.new hg).trans (Same.new hp))) ?_
    rw [upd_same, em]
structure LvOk (P : Program) (w : World) (K : W.Frag) (mg : Str -> Option Value) (base : Heap) (CE CC CB CF : Addr) (d : Nat) : Prop where
  e : ∃ f fd, Meth K CE "leaves" f /\ Binds K fd ["self"] [] /\ FnOk P w K mg base CX0 (3 + d) f fd ["self"] (spLvX CE CC CB CF 0 d)
  c : ∃ f fd, Meth K CC "leaves" f /\ Binds K fd ["self"] [] /\ FnOk P w K mg base CX0 (3 + d) f fd ["self"] (spLvX CE CC CB CF 1 d)
  b : ∃ f fd, Meth K CB "leaves" f /\ Binds K fd ["self"] [] /\ FnOk P w K mg base CX0 (3 + d) f fd ["self"] (spLvX CE CC CB CF 2 d)
  f : ∃ f fd, Meth K CF "leaves" f /\ Binds K fd ["self"] [] /\ FnOk P w K mg base CX0 (3 + d) f fd ["self"] (spLvX CE CC CB CF 3 d)
theorem meth_lv {A : Around} {d : Nat} (T : StK K mg CE CC CB CF) (O : LvOk P w K mg base CE CC CB CF d) (R : Room (3 + d) A) {H : Hp} {Q : VK} {r : V} {S : Stp} (hs : StepAt CE CC CB CF H S r) (dp : S.deep <= d) (d8 : d <= 8)
    (q : ∀ l xs M H', Same H H' -> H l = none -> H' l = some (.lst xs) -> Paired (LeafAt H') xs M -> LvIs S M -> Q (.ref l) H') :
    ∃ a C dx fs, r = .ref a /\ H a = some (.ins C dx fs) /\ fs.lookup ("leaves" : Str) = none /\
      ∃ (k : Nat) (f : Addr) (fd : FuncData) (ps : List Str) (sp : Sp), Cls K C /\ Meth K C "leaves" f /\ FnOk P w K mg base CX0 k f fd ps sp /\ Room k A /\ Binds K fd ps [] /\ sp [r] H Q E0 := by
  cases S with
  | fin =>
    obtain ⟨a, dx, e, h⟩ := id hs
    obtain ⟨f, fd, m, b, F⟩ := O.e
    exact ⟨a, CE, dx, _, e, h, rfl, _, f, fd, _, _, T.clE, m, F, R, b, r, _, rfl, hs, rfl, dp, d8, q⟩
  | curl t s =>
    obtain ⟨a, dx, x, e, h, z⟩ := id hs
    obtain ⟨f, fd, m, b, F⟩ := O.c
    exact ⟨a, CC, dx, _, e, h, f2_lv _ _, _, f, fd, _, _, T.clC, m, F, R, b, r, _, rfl, hs, rfl, dp, d8, q⟩
  | bri t s =>
    obtain ⟨a, dx, x, e, h, z⟩ := id hs
    obtain ⟨f, fd, m, b, F⟩ := O.b
    exact ⟨a, CB, dx, _, e, h, f2_lv _ _, _, f, fd, _, _, T.clB, m, F, R, b, r, _, rfl, hs, rfl, dp, d8, q⟩
  | frk t s u =>
    obtain ⟨a, dx, x, y, e, h, z⟩ := id hs
    obtain ⟨f, fd, m, b, F⟩ := O.f
    exact ⟨a, CF, dx, _, e, h, f3_lv _ _ _, _, f, fd, _, _, T.clF, m, F, R, b, r, _, rfl, hs, rfl, dp, d8, q⟩
theorem ndTIOS : (["tree", "inner", "outer", "self"] : List Str).Nodup := by decide +kernel
theorem scEL : FnScope ["self"] ["self"] (defScope sELv) := ⟨rfl, rfl, rfl, by decide +kernel, rfl, by decide +kernel, by decide +kernel⟩
theorem ok_EL {f : Addr} {fd : FuncData} {d : Nat} (F : Fun K "leaves" "End.leaves" sELv f fd) : FnOk P w K mg base CX0 (3 + d) f fd ["self"] (spLvX CE CC CB CF 0 d) := by
  refine FnOk.mono (F.ok (k := 0) scEL (fun vs H Q E h => ?_) (fun cdv A outer s H vs Q E hr h => ?_)) (by lia)
  · obtain ⟨_, _, rfl, _⟩ := h; rfl
  · obtain ⟨v, S, rfl, hs, hh, dp, d8, q⟩ := h
    cases S with
    | fin =>
      refine ⟨_, pss_one (ps_ret (pe_lst (pa_cons (pe_tup (pa_cons (pe_tup pa_nil) (pa_cons (pe_tup pa_nil) (pa_cons (pe_tup pa_nil) pa_nil)))) pa_nil))), ?_⟩
      refine ⟨Nat.zero_le _, fun b hb => ⟨Nat.zero_le _, fun c hc => ⟨Nat.zero_le _, fun d hd => ⟨by show 3 <= sizeLine; decide, fun a ha => ⟨by show 1 <= sizeLine; decide, fun l hl => ?_⟩⟩⟩⟩⟩
      have s1 := Same.new (o := HO.tup []) hb
      have s2 := Same.new (o := HO.tup []) hc
      have s3 := Same.new (o := HO.tup []) hd
      have s4 := Same.new (o := HO.tup [.ref b, .ref c, .ref d]) ha
      have s5 := Same.new (o := HO.lst [.ref a]) hl
      refine q l _ [([], [], [])] _ (s1.trans (s2.trans (s3.trans (s4.trans s5)))) ((s1.trans (s2.trans (s3.trans s4))).free hl) upd_same (.cons (LeafAt.mk (s5 _ _ upd_same) (s5 _ _ (s4 _ _ (s3 _ _ (s2 _ _ upd_same)))) (s5 _ _ (s4 _ _ (s3 _ _ upd_same))) (s5 _ _ (s4 _ _ upd_same))) .nil) ⟨List.Perm.refl _, List.pairwise_singleton _ _⟩
    | _ => cases hh
theorem scCL : FnScope ["self", "below"] ["self"] (defScope sCLv) := ⟨rfl, rfl, rfl, by decide +kernel, rfl, by decide +kernel, by decide +kernel⟩
theorem ok_CL {f : Addr} {fd : FuncData} {d : Nat} (F : Fun K "leaves" "Curl.leaves" sCLv f fd) (X : Txt K mg) (T : StK K mg CE CC CB CF) (DW : Def P w K mg base 1 "with_tie" ["ties", "tie"] spWith) (O : LvOk P w K mg base CE CC CB CF d) : FnOk P w K mg base CX0 (3 + (d + 1)) f fd ["self"] (spLvX CE CC CB CF 1 (d + 1)) := by
  refine FnOk.mono (F.ok (k := 3 + d) scCL (fun vs H Q E h => ?_) (fun cdv A outer s H vs Q E hr h => ?_)) (by lia)
  · obtain ⟨_, _, rfl, _⟩ := h; rfl
  · obtain ⟨v, S, rfl, hs, hh, dp, d8, q⟩ := h
    cases S with
    | curl t s =>
      obtain ⟨a, dx, r, rfl, ha, hr0⟩ := hs
      have hr1 : Room 1 _ := hr.mono (by lia)
      have sd : s.deep <= d := Nat.le_of_succ_le_succ dp
      refine ⟨_, pss_cons (ps_set (i := 1) scCL.nd rfl (Or.inl rfl) (pe_methA (pe_fld (pv 0) rfl)))
        (pss_one (ps_ret (pe_callB (call_sortedN (units66 hr)) (by rfl) X.sorted boot_sorted' (pa_cons (pe_comp (N' := ["tree", "inner", "outer", "self"]) (fr := [none, none, none, some 0]) (compOk_of (by rfl)) rfl (pi_seqK K .l (pv 1))
          (g := gTup K 3 (gCons (gName 0) (gCons (gName 1) (gCons (gName 2) gNil)))) (fun _ _ _ _ => pg_tupK K 3 rfl (pgs_cons (pg_name (i := 0) ndTIOS rfl (Or.inl rfl) (Or.inr rfl)) (pgs_cons (pg_name (i := 1) ndTIOS rfl (Or.inl rfl) (Or.inr rfl)) (pgs_cons (pg_name (i := 2) ndTIOS rfl (Or.inl rfl) (Or.inr rfl)) pgs_nil)))) (fun _ _ _ _ => pifs_nil)
          (fun _ _ _ _ => pe_tup (pa_cons (pv 0) (pa_cons (pv 1) (pa_cons (pe_def DW hr1 rfl (pa_cons (pv 2) (pa_cons (pe_fldK K (pv 3) rfl) pa_nil))) pa_nil))))) pa_nil)))), ?_⟩
      refine seq_abs fun M hM => ?_
      refine ⟨_, rfl, a, CC, dx, _, r, rfl, ha, T.clC, T.c2, f2_rest _ _, ?_⟩
      refine meth_lv T O hr hr0 sd (by lia) fun l xs N H1 s1 hl0 hl hx lv => hM _ _ ?_
      clear hM M
      try dsimp only [List.set]
      have xl : xs.length = N.length := Paired.length hx
      have n256 := lvs256 lv (by lia)
      refine ⟨_, rfl, l, rfl, ⟨_, SqL.of hl⟩, comp_seq (k := .l) (K := K) (a := l) (xs := xs) (fun σ => ∃ u v r, σ = [u, v, r, some (.ref a)]) (fun i ys H' => Same H1 H' /\ Paired (LeafAt H') ys ((N.take i).map (lC t))) ⟨_, _, _, rfl⟩ ⟨Same.refl _, .nil⟩ (natB (by lia)) (fun i ys H' _ z => SqL.of (z.1 _ _ hl)) ?_ ?_⟩
      · rintro i x ys σ H2 Z hx2 ⟨u, v, r2, rfl⟩ ⟨sm, P2⟩ hZ
        obtain ⟨y, ey, hy⟩ := Paired.at hx hx2
        obtain ⟨b, c1, c2, c3, rfl, hb, h1, h2, h3⟩ := LeafAt.ex (NestAt.same hy sm)
        obtain ⟨⟨_, _, u3⟩, _, _, l3⟩ := lvs_up s y (lv.1.subset (List.mem_of_getElem? ey))
        refine ⟨b, _, rfl, SqT.of hb, rfl, _, _, rfl, _, _, rfl, _, _, rfl, rfl, ?_⟩
        dsimp only [gName, List.set]
        refine yesT ⟨_, rfl, _, rfl, _, rfl, _, rfl, a, CC, dx, _, _, rfl, sm _ _ (s1 _ _ ha), T.clC, T.c1, f2_tie _ _, c3, _, t, rfl, h3, u3, by lia, fun p H3 s3 hp => ?_⟩
        refine ⟨by show 3 <= sizeLine; decide, fun g hg => ?_⟩
        have s4 := Same.new (o := HO.tup [.ref c1, .ref c2, .ref p]) hg
        refine hZ _ _ _ ⟨_, _, _, rfl⟩ ⟨sm.trans (s3.trans s4), ?_⟩ (by simp)
        rw [take_succ_of ey, List.map_append]
        exact L2.Paired.snoc (leafs_same P2 (s3.trans s4)) (LeafAt.mk upd_same (s4 _ _ (s3 _ _ h1)) (s4 _ _ (s3 _ _ h2)) (s4 _ _ hp))
      · rintro ys H2 ⟨sm, P2⟩ p2 hp2
        rw [xl, List.take_length] at P2
        have s3 := Same.new (o := HO.lst ys) hp2
        have P3 := leafs_same P2 s3
        have yl : ys.length <= 256 := by have := Paired.length P3; rw [List.length_map] at this; lia
        refine ⟨p2, ys, _, rfl, SqL.of upd_same, by lia, nest_map P3, fun z hz => ?_, fun g rs L hP pm up hg => ?_⟩
        · obtain ⟨y, _, rfl⟩ := List.mem_map.mp hz
          exact fun e => nomatch e
        · obtain ⟨M', rfl, pM⟩ := sort_back pm
          have s4 := Same.new (o := HO.lst rs) hg
          have sA := s1.trans (sm.trans (s3.trans s4))
          exact q g rs M' _ sA ((s1.trans (sm.trans s3)).free hg) upd_same (leafs_same (nest_back hP) s4) ⟨pM.trans (lv.1.map (lC t)), up⟩
    | _ => cases hh
theorem scBL : FnScope ["self", "below"] ["self"] (defScope sBLv) := ⟨rfl, rfl, rfl, by decide +kernel, rfl, by decide +kernel, by decide +kernel⟩
theorem ok_BL {f : Addr} {fd : FuncData} {d : Nat} (F : Fun K "leaves" "Bridge.leaves" sBLv f fd) (X : Txt K mg) (T : StK K mg CE CC CB CF) (DW : Def P w K mg base 1 "with_tie" ["ties", "tie"] spWith) (O : LvOk P w K mg base CE CC CB CF d) : FnOk P w K mg base CX0 (3 + (d + 1)) f fd ["self"] (spLvX CE CC CB CF 2 (d + 1)) := by
  refine FnOk.mono (F.ok (k := 3 + d) scBL (fun vs H Q E h => ?_) (fun cdv A outer s H vs Q E hr h => ?_)) (by lia)
  · obtain ⟨_, _, rfl, _⟩ := h; rfl
  · obtain ⟨v, S, rfl, hs, hh, dp, d8, q⟩ := h
    cases S with
    | bri t s =>
      obtain ⟨a, dx, r, rfl, ha, hr0⟩ := hs
      have hr1 : Room 1 _ := hr.mono (by lia)
      have sd : s.deep <= d := Nat.le_of_succ_le_succ dp
      refine ⟨_, pss_cons (ps_set (i := 1) scBL.nd rfl (Or.inl rfl) (pe_methA (pe_fld (pv 0) rfl)))
        (pss_one (ps_ret (pe_callB (call_sortedN (units66 hr)) (by rfl) X.sorted boot_sorted' (pa_cons (pe_comp (N' := ["tree", "inner", "outer", "self"]) (fr := [none, none, none, some 0]) (compOk_of (by rfl)) rfl (pi_seqK K .l (pv 1))
          (g := gTup K 3 (gCons (gName 0) (gCons (gName 1) (gCons (gName 2) gNil)))) (fun _ _ _ _ => pg_tupK K 3 rfl (pgs_cons (pg_name (i := 0) ndTIOS rfl (Or.inl rfl) (Or.inr rfl)) (pgs_cons (pg_name (i := 1) ndTIOS rfl (Or.inl rfl) (Or.inr rfl)) (pgs_cons (pg_name (i := 2) ndTIOS rfl (Or.inl rfl) (Or.inr rfl)) pgs_nil)))) (fun _ _ _ _ => pifs_nil)
          (fun _ _ _ _ => pe_tup (pa_cons (pe_def DW hr1 rfl (pa_cons (pv 0) (pa_cons (pe_fldK K (pv 3) rfl) pa_nil))) (pa_cons (pe_def DW hr1 rfl (pa_cons (pv 1) (pa_cons (pe_fldK K (pv 3) rfl) pa_nil))) (pa_cons (pv 2) pa_nil))))) pa_nil)))), ?_⟩
      refine seq_abs fun M hM => ?_
      refine ⟨_, rfl, a, CB, dx, _, r, rfl, ha, T.clB, T.b2, f2_rest _ _, ?_⟩
      refine meth_lv T O hr hr0 sd (by lia) fun l xs N H1 s1 hl0 hl hx lv => hM _ _ ?_
      clear hM M
      try dsimp only [List.set]
      have xl : xs.length = N.length := Paired.length hx
      have n256 := lvs256 lv (by lia)
      refine ⟨_, rfl, l, rfl, ⟨_, SqL.of hl⟩, comp_seq (k := .l) (K := K) (a := l) (xs := xs) (fun σ => ∃ u v r, σ = [u, v, r, some (.ref a)]) (fun i ys H' => Same H1 H' /\ Paired (LeafAt H') ys ((N.take i).map (lB t))) ⟨_, _, _, rfl⟩ ⟨Same.refl _, .nil⟩ (natB (by lia)) (fun i ys H' _ z => SqL.of (z.1 _ _ hl)) ?_ ?_⟩
      · rintro i x ys σ H2 Z hx2 ⟨u, v, r2, rfl⟩ ⟨sm, P2⟩ hZ
        obtain ⟨y, ey, hy⟩ := Paired.at hx hx2
        obtain ⟨b, c1, c2, c3, rfl, hb, h1, h2, h3⟩ := LeafAt.ex (NestAt.same hy sm)
        obtain ⟨⟨u1, u2, _⟩, l1, l2, _⟩ := lvs_up s y (lv.1.subset (List.mem_of_getElem? ey))
        refine ⟨b, _, rfl, SqT.of hb, rfl, _, _, rfl, _, _, rfl, _, _, rfl, rfl, ?_⟩
        dsimp only [gName, List.set]
        refine yesT ⟨_, rfl, _, rfl, a, CB, dx, _, _, rfl, sm _ _ (s1 _ _ ha), T.clB, T.b1, f2_tie _ _, c1, _, t, rfl, h1, u1, by lia, fun p H3 s3 hp => ?_⟩
        refine ⟨_, rfl, _, rfl, a, CB, dx, _, _, rfl, s3 _ _ (sm _ _ (s1 _ _ ha)), T.clB, T.b1, f2_tie _ _, c2, _, t, rfl, s3 _ _ h2, u2, by lia, fun p' H3' s3' hp' => ?_⟩
        refine ⟨_, rfl, by show 3 <= sizeLine; decide, fun g hg => ?_⟩
        have s4 := Same.new (o := HO.tup [.ref p, .ref p', .ref c3]) hg
        have s34 := s3.trans (s3'.trans s4)
        refine hZ _ _ _ ⟨_, _, _, rfl⟩ ⟨sm.trans s34, ?_⟩ (by simp)
        rw [take_succ_of ey, List.map_append]
        exact L2.Paired.snoc (leafs_same P2 s34) (LeafAt.mk upd_same (s4 _ _ (s3' _ _ hp)) (s4 _ _ hp') (s34 _ _ h3))
      · rintro ys H2 ⟨sm, P2⟩ p2 hp2
        rw [xl, List.take_length] at P2
        have s3 := Same.new (o := HO.lst ys) hp2
        have P3 := leafs_same P2 s3
        have yl : ys.length <= 256 := by have := Paired.length P3; rw [List.length_map] at this; lia
        refine ⟨p2, ys, _, rfl, SqL.of upd_same, by lia, nest_map P3, fun z hz => ?_, fun g rs L hP pm up hg => ?_⟩
        · obtain ⟨y, _, rfl⟩ := List.mem_map.mp hz
          exact fun e => nomatch e
        · obtain ⟨M', rfl, pM⟩ := sort_back pm
          have s4 := Same.new (o := HO.lst rs) hg
          have sA := s1.trans (sm.trans (s3.trans s4))
          exact q g rs M' _ sA ((s1.trans (sm.trans s3)).free hg) upd_same (leafs_same (nest_back hP) s4) ⟨pM.trans (lv.1.map (lB t)), up⟩
    | _ => cases hh
theorem scFL : FnScope ["self", "below", "held"] ["self"] (defScope sFLv) := ⟨rfl, rfl, rfl, by decide +kernel, rfl, by decide +kernel, by decide +kernel⟩
theorem ok_FL {f : Addr} {fd : FuncData} {d : Nat} (F : Fun K "leaves" "Fork.leaves" sFLv f fd) (X : Txt K mg) (T : StK K mg CE CC CB CF) (DW : Def P w K mg base 1 "with_tie" ["ties", "tie"] spWith) (O : LvOk P w K mg base CE CC CB CF d) : FnOk P w K mg base CX0 (3 + (d + 1)) f fd ["self"] (spLvX CE CC CB CF 3 (d + 1)) := by
  refine FnOk.mono (F.ok (k := 3 + d) scFL (fun vs H Q E h => ?_) (fun cdv A outer s H vs Q E hr h => ?_)) (by lia)
  · obtain ⟨_, _, rfl, _⟩ := h; rfl
  · obtain ⟨v, S, rfl, hs, hh, dp, d8, q⟩ := h
    cases S with
    | frk t x y =>
      obtain ⟨a, dx, r, u, rfl, ha, hx0, hy0⟩ := hs
      have hr1 : Room 1 _ := hr.mono (by lia)
      have dm : max x.deep y.deep <= d := Nat.le_of_succ_le_succ dp
      have xd : x.deep <= d := Nat.le_trans (Nat.le_max_left _ _) dm
      have yd : y.deep <= d := Nat.le_trans (Nat.le_max_right _ _) dm
      refine ⟨_, pss_cons (ps_set (i := 1) scFL.nd rfl (Or.inl rfl) (pe_methA (pe_fld (pv 0) rfl)))
        (pss_cons (ps_setComp (i := 2) scFL.nd rfl (Or.inl rfl) (N' := ["tree", "inner", "outer", "self"]) (fr := [none, none, none, some 0]) (compOk_of (by rfl)) rfl (pi_seqK K .l (pv 1))
          (g := gTup K 3 (gCons (gName 0) (gCons (gName 1) (gCons (gName 2) gNil)))) (fun _ _ _ _ => pg_tupK K 3 rfl (pgs_cons (pg_name (i := 0) ndTIOS rfl (Or.inl rfl) (Or.inr rfl)) (pgs_cons (pg_name (i := 1) ndTIOS rfl (Or.inl rfl) (Or.inr rfl)) (pgs_cons (pg_name (i := 2) ndTIOS rfl (Or.inl rfl) (Or.inr rfl)) pgs_nil)))) (fun _ _ _ _ => pifs_nil)
          (fun _ _ _ _ => pe_tup (pa_cons (pe_def DW hr1 rfl (pa_cons (pv 0) (pa_cons (pe_fldK K (pv 3) rfl) pa_nil))) (pa_cons (pv 1) (pa_cons (pv 2) pa_nil)))))
        (pss_one (ps_ret (pe_callB (call_sortedN (units66 hr)) (by rfl) X.sorted boot_sorted' (pa_cons (pe_op op_cat (pe_methA (pe_fld (pv 0) rfl)) (pv 2)) pa_nil))))), ?_⟩
      refine seq_abs fun M hM => ?_
      refine ⟨_, rfl, a, CF, dx, _, u, rfl, ha, T.clF, T.x3, f3_in _ _ _, ?_⟩
      refine meth_lv T O hr hy0 yd (by lia) fun l xs N H1 s1 hl0 hl hx lv => hM _ _ ?_
      clear hM M
      try dsimp only [List.set]
      have xl : xs.length = N.length := Paired.length hx
      have n256 := lvs256 lv (by lia)
      refine seq_abs fun M hM => ?_
      refine ⟨_, rfl, l, rfl, ⟨_, SqL.of hl⟩, comp_seq (k := .l) (K := K) (a := l) (xs := xs) (fun σ => ∃ u v r, σ = [u, v, r, some (.ref a)]) (fun i ys H' => Same H1 H' /\ Paired (LeafAt H') ys ((N.take i).map (lF t))) ⟨_, _, _, rfl⟩ ⟨Same.refl _, .nil⟩ (natB (by lia)) (fun i ys H' _ z => SqL.of (z.1 _ _ hl)) ?_ ?_⟩
      · rintro i z ys σ H2 Z hx2 ⟨u', v, r2, rfl⟩ ⟨sm, P2⟩ hZ
        obtain ⟨w, ey, hy⟩ := Paired.at hx hx2
        obtain ⟨b, c1, c2, c3, rfl, hb, h1, h2, h3⟩ := LeafAt.ex (NestAt.same hy sm)
        obtain ⟨⟨u1, _, _⟩, l1, _, _⟩ := lvs_up y w (lv.1.subset (List.mem_of_getElem? ey))
        refine ⟨b, _, rfl, SqT.of hb, rfl, _, _, rfl, _, _, rfl, _, _, rfl, rfl, ?_⟩
        dsimp only [gName, List.set]
        refine yesT ⟨_, rfl, _, rfl, a, CF, dx, _, _, rfl, sm _ _ (s1 _ _ ha), T.clF, T.x1, f3_tie _ _ _, c1, _, t, rfl, h1, u1, by lia, fun p H3 s3 hp => ?_⟩
        refine ⟨_, rfl, _, rfl, by show 3 <= sizeLine; decide, fun g hg => ?_⟩
        have s4 := Same.new (o := HO.tup [.ref p, .ref c2, .ref c3]) hg
        refine hZ _ _ _ ⟨_, _, _, rfl⟩ ⟨sm.trans (s3.trans s4), ?_⟩ (by simp)
        rw [take_succ_of ey, List.map_append]
        exact L2.Paired.snoc (leafs_same P2 (s3.trans s4)) (LeafAt.mk upd_same (s4 _ _ hp) (s4 _ _ (s3 _ _ h2)) (s4 _ _ (s3 _ _ h3)))
      rintro ys H2 ⟨sm, P2⟩ p2 hp2
      rw [xl, List.take_length] at P2
      have s3 := Same.new (o := HO.lst ys) hp2
      have P3 := leafs_same P2 s3
      have h3 : (upd H2 p2 (.lst ys)) p2 = some (.lst ys) := upd_same
      have yl : ys.length <= 256 := by have := Paired.length P3; rw [List.length_map] at this; lia
      have sA := s1.trans (sm.trans s3)
      generalize upd H2 p2 (.lst ys) = H3 at s3 P3 h3 sA ⊢
      refine hM _ _ ?_
      clear hM M
      try dsimp only [List.set]
      refine ⟨_, rfl, a, CF, dx, _, r, rfl, sA _ _ ha, T.clF, T.x2, f3_out _ _ _, ?_⟩
      refine meth_lv T O hr (hx0.same sA) xd (by lia) fun l5 xs5 N5 H5 s5 hl50 hl5 hx5 lv5 => ?_
      have n5 := lvs256 lv5 (by lia)
      have xl5 : xs5.length = N5.length := Paired.length hx5
      refine ⟨_, rfl, l5, p2, _, _, rfl, rfl, hl5, s5 _ _ h3, Nat.le_of_lt (natB (by lia)), fun p6 hp6 => ?_⟩
      have s6 := Same.new (o := HO.lst (xs5 ++ ys)) hp6
      have P6 : Paired (LeafAt (upd H5 p6 (.lst (xs5 ++ ys)))) (xs5 ++ ys) (N5 ++ N.map (lF t)) := Paired.app (leafs_same hx5 s6) (leafs_same P3 (s5.trans s6))
      refine ⟨p6, _, _, rfl, SqL.of upd_same, by rw [List.length_append]; lia, nest_map P6, fun z hz => ?_, fun g rs L hP pm up hg => ?_⟩
      · obtain ⟨y, _, rfl⟩ := List.mem_map.mp hz
        exact fun e => nomatch e
      · obtain ⟨M', rfl, pM⟩ := sort_back pm
        have s7 := Same.new (o := HO.lst rs) hg
        have sB := sA.trans (s5.trans s6)
        exact q g rs M' _ (sB.trans s7) (sB.free hg) upd_same (leafs_same (nest_back hP) s7) ⟨pM.trans (lv5.1.append (lv.1.map (lF t))), up⟩
    | _ => cases hh
theorem lv_ok (X : Txt K mg) (T : StK K mg CE CC CB CF) (TL : StL K CE CC CB CF) (DW : Def P w K mg base 1 "with_tie" ["ties", "tie"] spWith) : ∀ d, LvOk P w K mg base CE CC CB CF d
  | 0 => by
    obtain ⟨fe, de, me, Fe, be⟩ := TL.lE
    obtain ⟨fc, dc, mc, Fc, bc⟩ := TL.lC
    obtain ⟨fb, db, mb, Fb, bb⟩ := TL.lB
    obtain ⟨ff, df, mf, Ff, bf⟩ := TL.lF
    have bad : ∀ {f : Addr} {fd : FuncData} {c : Nat}, c ≠ 0 -> FnOk P w K mg base CX0 (3 + 0) f fd ["self"] (spLvX CE CC CB CF c 0) := fun {f fd c} c0 => by
      have no : ∀ vs H Q E, ¬ spLvX CE CC CB CF c 0 vs H Q E := fun vs H Q E h => by
        obtain ⟨v, S, _, _, hh, dp, _⟩ := h
        cases S with
        | fin => exact c0 hh.symm
        | curl _ _ => exact absurd dp (Nat.not_succ_le_zero _)
        | bri _ _ => exact absurd dp (Nat.not_succ_le_zero _)
        | frk _ _ _ => exact absurd dp (Nat.not_succ_le_zero _)
      exact ⟨fun vs H Q E h => (no vs H Q E h).elim, fun A outer s H args us vs Q E _ _ _ _ h => (no vs H Q E h).elim⟩
    exact ⟨⟨fe, de, me, be, ok_EL Fe⟩, ⟨fc, dc, mc, bc, bad (by decide)⟩, ⟨fb, db, mb, bb, bad (by decide)⟩, ⟨ff, df, mf, bf, bad (by decide)⟩⟩
  | d + 1 => by
    have O := lv_ok X T TL DW d
    obtain ⟨fe, de, me, Fe, be⟩ := TL.lE
    obtain ⟨fc, dc, mc, Fc, bc⟩ := TL.lC
    obtain ⟨fb, db, mb, Fb, bb⟩ := TL.lB
    obtain ⟨ff, df, mf, Ff, bf⟩ := TL.lF
    exact ⟨⟨fe, de, me, be, ok_EL Fe⟩, ⟨fc, dc, mc, bc, ok_CL Fc X T DW O⟩, ⟨fb, db, mb, bb, ok_BL Fb X T DW O⟩, ⟨ff, df, mf, bf, ok_FL Ff X T DW O⟩⟩
structure MyOk (P : Program) (w : World) (K : W.Frag) (mg : Str -> Option Value) (base : Heap) (CE CC CB CF : Addr) (d : Nat) : Prop where
  e : ∃ f fd, Meth K CE "many" f /\ Binds K fd ["self"] [] /\ FnOk P w K mg base CX0 (3 + d) f fd ["self"] (spMyX CE CC CB CF 0 d)
  c : ∃ f fd, Meth K CC "many" f /\ Binds K fd ["self"] [] /\ FnOk P w K mg base CX0 (3 + d) f fd ["self"] (spMyX CE CC CB CF 1 d)
  b : ∃ f fd, Meth K CB "many" f /\ Binds K fd ["self"] [] /\ FnOk P w K mg base CX0 (3 + d) f fd ["self"] (spMyX CE CC CB CF 2 d)
  f : ∃ f fd, Meth K CF "many" f /\ Binds K fd ["self"] [] /\ FnOk P w K mg base CX0 (3 + d) f fd ["self"] (spMyX CE CC CB CF 3 d)
theorem meth_my {A : Around} {d : Nat} (T : StK K mg CE CC CB CF) (O : MyOk P w K mg base CE CC CB CF d) (R : Room (3 + d) A) {H : Hp} {Q : VK} {r : V} {S : Stp} (hs : StepAt CE CC CB CF H S r) (dp : S.deep <= d) (d8 : d <= 8)
    (q : ∀ H', Same H H' -> Q (.int ((lvs S).length : Int)) H') :
    ∃ a C dx fs, r = .ref a /\ H a = some (.ins C dx fs) /\ fs.lookup ("many" : Str) = none /\
      ∃ (k : Nat) (f : Addr) (fd : FuncData) (ps : List Str) (sp : Sp), Cls K C /\ Meth K C "many" f /\ FnOk P w K mg base CX0 k f fd ps sp /\ Room k A /\ Binds K fd ps [] /\ sp [r] H Q E0 := by
  cases S with
  | fin =>
    obtain ⟨a, dx, e, h⟩ := id hs
    obtain ⟨f, fd, m, b, F⟩ := O.e
    exact ⟨a, CE, dx, _, e, h, rfl, _, f, fd, _, _, T.clE, m, F, R, b, r, _, rfl, hs, rfl, dp, d8, q⟩
  | curl t s =>
    obtain ⟨a, dx, x, e, h, z⟩ := id hs
    obtain ⟨f, fd, m, b, F⟩ := O.c
    exact ⟨a, CC, dx, _, e, h, f2_my _ _, _, f, fd, _, _, T.clC, m, F, R, b, r, _, rfl, hs, rfl, dp, d8, q⟩
  | bri t s =>
    obtain ⟨a, dx, x, e, h, z⟩ := id hs
    obtain ⟨f, fd, m, b, F⟩ := O.b
    exact ⟨a, CB, dx, _, e, h, f2_my _ _, _, f, fd, _, _, T.clB, m, F, R, b, r, _, rfl, hs, rfl, dp, d8, q⟩
  | frk t s u =>
    obtain ⟨a, dx, x, y, e, h, z⟩ := id hs
    obtain ⟨f, fd, m, b, F⟩ := O.f
    exact ⟨a, CF, dx, _, e, h, f3_my _ _ _, _, f, fd, _, _, T.clF, m, F, R, b, r, _, rfl, hs, rfl, dp, d8, q⟩
theorem scEM : FnScope ["self"] ["self"] (defScope sEMany) := ⟨rfl, rfl, rfl, by decide +kernel, rfl, by decide +kernel, by decide +kernel⟩
theorem ok_EM {f : Addr} {fd : FuncData} {d : Nat} (F : Fun K "many" "End.many" sEMany f fd) : FnOk P w K mg base CX0 (3 + d) f fd ["self"] (spMyX CE CC CB CF 0 d) := by
  refine FnOk.mono (F.ok (k := 0) scEM (fun vs H Q E h => ?_) (fun cdv A outer s H vs Q E hr h => ?_)) (by lia)
  · obtain ⟨_, _, rfl, _⟩ := h; rfl
  · obtain ⟨v, S, rfl, hs, hh, dp, d8, q⟩ := h
    cases S with
    | fin => exact ⟨_, pss_one (ps_ret pe_int), q H (Same.refl _)⟩
    | _ => cases hh
theorem scCM : FnScope ["self"] ["self"] (defScope sCMany) := ⟨rfl, rfl, rfl, by decide +kernel, rfl, by decide +kernel, by decide +kernel⟩
theorem ok_CM {f : Addr} {fd : FuncData} {d : Nat} (F : Fun K "many" "Curl.many" sCMany f fd) (T : StK K mg CE CC CB CF) (O : MyOk P w K mg base CE CC CB CF d) : FnOk P w K mg base CX0 (3 + (d + 1)) f fd ["self"] (spMyX CE CC CB CF 1 (d + 1)) := by
  refine FnOk.mono (F.ok (k := 3 + d) scCM (fun vs H Q E h => ?_) (fun cdv A outer s H vs Q E hr h => ?_)) (by lia)
  · obtain ⟨_, _, rfl, _⟩ := h; rfl
  · obtain ⟨v, S, rfl, hs, hh, dp, d8, q⟩ := h
    cases S with
    | curl t s =>
      obtain ⟨a, dx, r, rfl, ha, hr0⟩ := hs
      have sd : s.deep <= d := Nat.le_of_succ_le_succ dp
      refine ⟨_, pss_one (ps_ret (pe_methA (pe_fld (pv 0) rfl))), ?_⟩
      refine ⟨_, rfl, a, CC, dx, _, r, rfl, ha, T.clC, T.c2, f2_rest _ _, ?_⟩
      refine meth_my T O hr hr0 sd (by lia) fun H1 s1 => ?_
      have := q H1 s1
      unfold lvs at this
      rw [List.length_map] at this
      exact this
    | _ => cases hh
theorem scBM : FnScope ["self"] ["self"] (defScope sBMany) := ⟨rfl, rfl, rfl, by decide +kernel, rfl, by decide +kernel, by decide +kernel⟩
theorem ok_BM {f : Addr} {fd : FuncData} {d : Nat} (F : Fun K "many" "Bridge.many" sBMany f fd) (T : StK K mg CE CC CB CF) (O : MyOk P w K mg base CE CC CB CF d) : FnOk P w K mg base CX0 (3 + (d + 1)) f fd ["self"] (spMyX CE CC CB CF 2 (d + 1)) := by
  refine FnOk.mono (F.ok (k := 3 + d) scBM (fun vs H Q E h => ?_) (fun cdv A outer s H vs Q E hr h => ?_)) (by lia)
  · obtain ⟨_, _, rfl, _⟩ := h; rfl
  · obtain ⟨v, S, rfl, hs, hh, dp, d8, q⟩ := h
    cases S with
    | bri t s =>
      obtain ⟨a, dx, r, rfl, ha, hr0⟩ := hs
      have sd : s.deep <= d := Nat.le_of_succ_le_succ dp
      refine ⟨_, pss_one (ps_ret (pe_methA (pe_fld (pv 0) rfl))), ?_⟩
      refine ⟨_, rfl, a, CB, dx, _, r, rfl, ha, T.clB, T.b2, f2_rest _ _, ?_⟩
      refine meth_my T O hr hr0 sd (by lia) fun H1 s1 => ?_
      have := q H1 s1
      unfold lvs at this
      rw [List.length_map] at this
      exact this
    | _ => cases hh
theorem scFM : FnScope ["self"] ["self"] (defScope sFMany) := ⟨rfl, rfl, rfl, by decide +kernel, rfl, by decide +kernel, by decide +kernel⟩
theorem ok_FM {f : Addr} {fd : FuncData} {d : Nat} (F : Fun K "many" "Fork.many" sFMany f fd) (T : StK K mg CE CC CB CF) (O : MyOk P w K mg base CE CC CB CF d) : FnOk P w K mg base CX0 (3 + (d + 1)) f fd ["self"] (spMyX CE CC CB CF 3 (d + 1)) := by
  refine FnOk.mono (F.ok (k := 3 + d) scFM (fun vs H Q E h => ?_) (fun cdv A outer s H vs Q E hr h => ?_)) (by lia)
  · obtain ⟨_, _, rfl, _⟩ := h; rfl
  · obtain ⟨v, S, rfl, hs, hh, dp, d8, q⟩ := h
    cases S with
    | frk t x y =>
      obtain ⟨a, dx, r, u, rfl, ha, hx0, hy0⟩ := hs
      have dm : max x.deep y.deep <= d := Nat.le_of_succ_le_succ dp
      have xd : x.deep <= d := Nat.le_trans (Nat.le_max_left _ _) dm
      have yd : y.deep <= d := Nat.le_trans (Nat.le_max_right _ _) dm
      refine ⟨_, pss_one (ps_ret (pe_op op_add (pe_methA (pe_fld (pv 0) rfl)) (pe_methA (pe_fld (pv 0) rfl)))), ?_⟩
      refine ⟨_, rfl, a, CF, dx, _, r, rfl, ha, T.clF, T.x2, f3_out _ _ _, ?_⟩
      refine meth_my T O hr hx0 xd (by lia) fun H1 s1 => ?_
      refine ⟨_, rfl, a, CF, dx, _, u, rfl, s1 _ _ ha, T.clF, T.x3, f3_in _ _ _, ?_⟩
      refine meth_my T O hr (hy0.same s1) yd (by lia) fun H2 s2 => ?_
      refine ⟨_, _, rfl, rfl, ?_⟩
      have := q H2 (s1.trans s2)
      unfold lvs at this
      rw [List.length_append, List.length_map, Int.natCast_add] at this
      exact this
    | _ => cases hh
theorem my_ok (T : StK K mg CE CC CB CF) (TL : StL K CE CC CB CF) : ∀ d, MyOk P w K mg base CE CC CB CF d
  | 0 => by
    obtain ⟨fe, de, me, Fe, be⟩ := TL.mE
    obtain ⟨fc, dc, mc, Fc, bc⟩ := TL.mC
    obtain ⟨fb, db, mb, Fb, bb⟩ := TL.mB
    obtain ⟨ff, df, mf, Ff, bf⟩ := TL.mF
    have bad : ∀ {f : Addr} {fd : FuncData} {c : Nat}, c ≠ 0 -> FnOk P w K mg base CX0 (3 + 0) f fd ["self"] (spMyX CE CC CB CF c 0) := fun {f fd c} c0 => by
      have no : ∀ vs H Q E, ¬ spMyX CE CC CB CF c 0 vs H Q E := fun vs H Q E h => by
        obtain ⟨v, S, _, _, hh, dp, _⟩ := h
        cases S with
        | fin => exact c0 hh.symm
        | curl _ _ => exact absurd dp (Nat.not_succ_le_zero _)
        | bri _ _ => exact absurd dp (Nat.not_succ_le_zero _)
        | frk _ _ _ => exact absurd dp (Nat.not_succ_le_zero _)
      exact ⟨fun vs H Q E h => (no vs H Q E h).elim, fun A outer s H args us vs Q E _ _ _ _ h => (no vs H Q E h).elim⟩
    exact ⟨⟨fe, de, me, be, ok_EM Fe⟩, ⟨fc, dc, mc, bc, bad (by decide)⟩, ⟨fb, db, mb, bb, bad (by decide)⟩, ⟨ff, df, mf, bf, bad (by decide)⟩⟩
  | d + 1 => by
    have O := my_ok T TL d
    obtain ⟨fe, de, me, Fe, be⟩ := TL.mE
    obtain ⟨fc, dc, mc, Fc, bc⟩ := TL.mC
    obtain ⟨fb, db, mb, Fb, bb⟩ := TL.mB
    obtain ⟨ff, df, mf, Ff, bf⟩ := TL.mF
    exact ⟨⟨fe, de, me, be, ok_EM Fe⟩, ⟨fc, dc, mc, bc, ok_CM Fc T O⟩, ⟨fb, db, mb, bb, ok_BM Fb T O⟩, ⟨ff, df, mf, bf, ok_FM Ff T O⟩⟩
end
theorem sw_mem {n : Int} {ps : List (Int × Int)} {t : List Int} {p : Int × Int} : p ∈ swP n ps t ↔ p.1 ∈ t /\ (0 <= p.2 /\ p.2 < ps.length) /\ acB n ps t p.1 p.2 = true := by
  unfold swP
  rw [List.mem_flatMap]
  constructor
  · rintro ⟨g, hg, hp⟩
    unfold swOf at hp
    obtain ⟨c, hc, rfl⟩ := List.mem_map.mp hp
    obtain ⟨h1, h2⟩ := List.mem_filter.mp hc
    exact ⟨hg, mem_ups.mp h1, h2⟩
  · rintro ⟨h1, h2, h3⟩
    exact ⟨p.1, h1, List.mem_map.mpr ⟨p.2, List.mem_filter.mpr ⟨mem_ups.mpr h2, h3⟩, rfl⟩⟩
theorem sw_in {n : Int} {ps : List (Int × Int)} {t : List Int} {k c : Int} : c ∈ ((swP n ps t).filter fun p => decide (p.1 = k)).map (·.2) ↔ k ∈ t /\ (0 <= c /\ c < ps.length) /\ acB n ps t k c = true := by
  rw [List.mem_map]
  constructor
  · rintro ⟨p, hp, rfl⟩
    obtain ⟨h1, h2⟩ := List.mem_filter.mp hp
    have e := of_decide_eq_true h2
    rw [<- e]
    exact sw_mem.mp h1
  · intro h
    exact ⟨(k, c), List.mem_filter.mpr ⟨sw_mem.mpr h, decide_eq_true rfl⟩, rfl⟩
theorem sw_out {n : Int} {ps : List (Int × Int)} {t : List Int} {k g : Int} : g ∈ ((swP n ps t).filter fun p => decide (p.2 = k)).map (·.1) ↔ g ∈ t /\ (0 <= k /\ k < ps.length) /\ acB n ps t g k = true := by
  rw [List.mem_map]
  constructor
  · rintro ⟨p, hp, rfl⟩
    obtain ⟨h1, h2⟩ := List.mem_filter.mp hp
    have e := of_decide_eq_true h2
    rw [<- e]
    exact sw_mem.mp h1
  · intro h
    exact ⟨(g, k), List.mem_filter.mpr ⟨sw_mem.mpr h, decide_eq_true rfl⟩, rfl⟩
def Uk (k j : Int) : Int := if j < k then j else j + 1
def Dk (k j : Int) : Int := if j < k then j else j - 1
def dnP (k : Int) (p : List Int) : List Int := (p.filter fun j => decide (j ≠ k)).map (Dk k)
theorem Dk_Uk (k i : Int) : Dk k (Uk k i) = i := by unfold Dk Uk; split <;> (try split) <;> lia
theorem Uk_ne (k i : Int) : Uk k i ≠ k := by unfold Uk; split <;> lia
theorem Uk_Dk {k j : Int} (h : j ≠ k) : Uk k (Dk k j) = j := by unfold Dk Uk; split <;> (try split) <;> lia
theorem Uk_inj {k i j : Int} : Uk k i = Uk k j ↔ i = j := ⟨fun h => by rw [<- Dk_Uk k i, h, Dk_Uk], fun h => by rw [h]⟩
theorem Uk_lt {k i j : Int} : Uk k i < Uk k j ↔ i < j := by unfold Uk; split <;> split <;> lia
theorem Dk_lt {k i j : Int} (hi : i ≠ k) (hj : j ≠ k) (h : i < j) : Dk k i < Dk k j := by unfold Dk; split <;> split <;> lia
theorem mem_dn {k i : Int} {p : List Int} : i ∈ dnP k p ↔ Uk k i ∈ p := by
  unfold dnP
  rw [List.mem_map]
  constructor
  · rintro ⟨j, hj, rfl⟩
    obtain ⟨h1, h2⟩ := List.mem_filter.mp hj
    rw [Uk_Dk (of_decide_eq_true h2)]
    exact h1
  · intro h
    exact ⟨Uk k i, List.mem_filter.mpr ⟨h, decide_eq_true (Uk_ne k i)⟩, Dk_Uk k i⟩
theorem dn_up {k : Int} {p : List Int} (up : p.Pairwise (· < ·)) : (dnP k p).Pairwise (· < ·) := by
  unfold dnP
  rw [List.pairwise_map]
  refine (up.filter _).imp_of_mem fun {a b} ha hb h => ?_
  exact Dk_lt (of_decide_eq_true (List.mem_filter.mp ha).2) (of_decide_eq_true (List.mem_filter.mp hb).2) h
theorem tie_wo {ps : List (Int × Int)} {j : Nat} {i : Int} (hj : j < ps.length) (i0 : 0 <= i) (h : i ≠ (j : Int)) : tieN (wo ps j) (Dk j i) = tieN ps i := by
  obtain ⟨m, rfl⟩ := Int.eq_ofNat_of_zero_le i0
  unfold tieN wo Dk
  rw [List.getD_eq_getElem?_getD, List.getD_eq_getElem?_getD]
  congr 1
  split
  · rw [Int.toNat_natCast, List.getElem?_append_left (by rw [List.length_take]; lia), List.getElem?_take_of_lt (by lia)]
  · rw [List.getElem?_append_right (by rw [List.length_take]; lia), List.length_take, List.getElem?_drop]
    congr 1
    lia
theorem hd_del {ps : List (Int × Int)} {j : Nat} (hj : j < ps.length) : ∀ (p hs : List Int), (∀ i ∈ p, 0 <= i) -> ((j : Int) ∈ p -> (tieN ps j).1 = (tieN ps j).2) -> hdF (wo ps j) hs (dnP j p) = hdF ps hs p
  | [], _, _, _ => rfl
  | x :: p, hs, nn, curl => by
    have ih := fun hs => hd_del hj p hs (fun i hi => nn i (List.mem_cons_of_mem _ hi)) fun z => curl (List.mem_cons_of_mem _ z)
    unfold dnP at ih ⊢
    by_cases c : x = (j : Int)
    · rw [List.filter_cons_of_neg (by rw [c]; simp), ih]
      show hdF ps hs p = hdF ps (stepH hs (tieN ps x)) p
      rw [c, stepH_same (by rw [curl (by rw [c]; exact List.mem_cons_self)])]
    · rw [List.filter_cons_of_pos (by exact decide_eq_true c), List.map_cons]
      show hdF (wo ps j) (stepH hs (tieN (wo ps j) (Dk j x))) _ = hdF ps (stepH hs (tieN ps x)) p
      rw [tie_wo hj (nn x List.mem_cons_self) c, ih]
theorem mvL_U {a b x : Int} (h : a < b) : Uk b (mvL a b x) = if x = b then a else x := by unfold mvL Uk; split <;> (try split) <;> (try split) <;> lia
structure Sim (n a b : Int) (hs hs' : List Int) : Prop where
  len : (hs.length : Int) = n
  len' : (hs'.length : Int) = n - 1
  at' : ∀ x, 0 <= x -> x < n -> at0 hs x = Uk b (at0 hs' (mvL a b x))
theorem sim_step {n a b : Int} {hs hs' : List Int} (S : Sim n a b hs hs') (h : a < b) (a0 : 0 <= a) (bn : b < n) {p : Int × Int} (hp : InN n p) : Sim n a b (stepH hs p) (stepH hs' (mvL a b p.1, mvL a b p.2)) := by
  obtain ⟨p1, p2, p3, p4⟩ := hp
  have l1 := S.len
  have l2 := S.len'
  refine ⟨by rw [stepH_len]; exact l1, by rw [stepH_len]; exact l2, fun x x0 xn => ?_⟩
  have mx := mvL_in h a0 bn x0 xn
  unfold stepH
  rw [at_map x0 (by lia), at_map mx.1 (by lia), S.at' x x0 xn, S.at' p.1 p1 p2, S.at' p.2 p3 p4]
  dsimp only
  generalize at0 hs' (mvL a b x) = z
  generalize at0 hs' (mvL a b p.1) = u
  generalize at0 hs' (mvL a b p.2) = v
  rcases Int.lt_trichotomy u v with c | c | c
  · have c' : Uk b u < Uk b v := Uk_lt.mpr c
    rw [if_pos (show Uk b v > Uk b u from c'), if_neg (show ¬ Uk b v < Uk b u by lia), if_pos (show v > u from c), if_neg (show ¬ v < u by lia)]
    by_cases d : z = v
    · rw [d, if_pos rfl, if_pos rfl]
    · rw [if_neg d, if_neg fun e => d (Uk_inj.mp e)]
  · rw [c]
    simp only [ite_self]
    by_cases d : z = v
    · rw [d, if_pos rfl, if_pos rfl]
    · rw [if_neg d, if_neg fun e => d (Uk_inj.mp e)]
  · have c' : Uk b v < Uk b u := Uk_lt.mpr c
    rw [if_neg (show ¬ Uk b v > Uk b u by lia), if_pos c', if_neg (show ¬ v > u by lia), if_pos c]
    by_cases d : z = u
    · rw [d, if_pos rfl, if_pos rfl]
    · rw [if_neg d, if_neg fun e => d (Uk_inj.mp e)]
theorem drawn_tie {ps : List (Int × Int)} {j : Nat} {p : Int × Int} (ne : p.1 ≠ p.2) {i : Int} (hj : j < ps.length) (i0 : 0 <= i) (il : i < ps.length) (h : i ≠ (j : Int)) : tieN (drawnP ps j p) (Dk j i) = norm (mvL p.1 p.2 (tieN ps i).1, mvL p.1 p.2 (tieN ps i).2) := by
  rw [<- tie_wo hj i0 h]
  unfold drawnP
  rw [if_neg ne]
  unfold tieN
  have : (Dk j i).toNat < (wo ps j).length := by
    have := wo_len1 hj
    unfold Dk
    split <;> lia
  rw [List.getD_eq_getElem?_getD, List.getD_eq_getElem?_getD, List.getElem?_map, List.getElem?_eq_getElem this]
  rfl
theorem sim_go {n : Int} {ps : List (Int × Int)} {j : Nat} {p : Int × Int} (hb : ∀ q ∈ ps, InN n q) (hj : j < ps.length) (hlt : p.1 < p.2) (hp : InN n p) (ep : tieN ps j = p) : ∀ (r done : List Int), Ks ps.length (done ++ r) -> (∀ i ∈ done ++ r, i ≠ (j : Int)) ->
    Sim n p.1 p.2 (hdF ps (ups n) ((j : Int) :: done)) (hdF (drawnP ps j p) (ups (n - 1)) (done.map (Dk j))) -> cN n ps ((j : Int) :: done) = cN (n - 1) (drawnP ps j p) (done.map (Dk j)) -> cN n ps ((j : Int) :: (done ++ r)) = cN (n - 1) (drawnP ps j p) ((done ++ r).map (Dk j))
  | [], done, _, _, _, e => by rw [List.append_nil]; exact e
  | i :: r, done, hk, ne, S, e => by
    obtain ⟨p1, p2, p3, p4⟩ := id hp
    have i1 := hk i (List.mem_append_right _ List.mem_cons_self)
    have i2 := ne i (List.mem_append_right _ List.mem_cons_self)
    have kd : Ks ps.length done := fun x hx => hk x (List.mem_append_left _ hx)
    have kj : Ks ps.length ((j : Int) :: done) := fun x hx => by
      rcases List.mem_cons.mp hx with z | z
      · lia
      · exact kd x z
    have dl := drawn_len ps j p
    have wl := wo_len1 hj
    have kd' : Ks (drawnP ps j p).length (done.map (Dk j)) := fun x hx => by
      obtain ⟨y, hy, rfl⟩ := List.mem_map.mp hx
      have y1 := kd y hy
      have y2 := ne y (List.mem_append_left _ hy)
      unfold Dk
      split <;> lia
    have di : 0 <= Dk j i /\ Dk j i < (drawnP ps j p).length := by
      unfold Dk
      split <;> lia
    have hin := tieN_in hb i1.1 i1.2
    have et := drawn_tie (p := p) (by lia) hj i1.1 i1.2 i2
    have e1 := c_snoc (by lia) hb kj i1.1 i1.2
    have e2 := c_snoc (n := n - 1) (by lia) (drawn_in (j := j) hb hlt hp) kd' di.1 di.2
    have key : done ++ i :: r = (done ++ [i]) ++ r := by simp
    have S2 : Sim n p.1 p.2 (hdF ps (ups n) ((j : Int) :: (done ++ [i]))) (hdF (drawnP ps j p) (ups (n - 1)) ((done ++ [i]).map (Dk j))) := by
      rw [<- List.cons_append, hdF_snoc, List.map_append, List.map_cons, List.map_nil, hdF_snoc, et, stepH_norm]
      exact sim_step S hlt p1 p4 hin
    rw [key] at hk ne ⊢
    refine sim_go hb hj hlt hp ep r (done ++ [i]) hk ne S2 ?_
    rw [<- List.cons_append, e1, List.map_append, List.map_cons, List.map_nil, e2, e, et]
    congr 1
    have q : (at0 (hdF ps (ups n) ((j : Int) :: done)) (tieN ps i).1 = at0 (hdF ps (ups n) ((j : Int) :: done)) (tieN ps i).2) ↔
        (at0 (hdF (drawnP ps j p) (ups (n - 1)) (done.map (Dk j))) (norm (mvL p.1 p.2 (tieN ps i).1, mvL p.1 p.2 (tieN ps i).2)).1 = at0 (hdF (drawnP ps j p) (ups (n - 1)) (done.map (Dk j))) (norm (mvL p.1 p.2 (tieN ps i).1, mvL p.1 p.2 (tieN ps i).2)).2) := by
      rw [S.at' _ hin.1 hin.2.1, S.at' _ hin.2.2.1 hin.2.2.2, Uk_inj]
      rcases norm_cases (mvL p.1 p.2 (tieN ps i).1, mvL p.1 p.2 (tieN ps i).2) with ⟨z1, z2⟩ | ⟨z1, z2⟩
      · rw [z1, z2]
      · rw [z1, z2]
        exact ⟨Eq.symm, Eq.symm⟩
    by_cases c : at0 (hdF ps (ups n) ((j : Int) :: done)) (tieN ps i).1 = at0 (hdF ps (ups n) ((j : Int) :: done)) (tieN ps i).2
    · rw [if_pos c, if_pos (q.mp c)]
    · rw [if_neg c, if_neg fun z => c (q.mpr z)]
theorem draw_c {n : Int} {ps : List (Int × Int)} {j : Nat} {p : Int × Int} {ks : List Int} (n9 : n <= 9) (hb : ∀ q ∈ ps, InN n q) (hj : j < ps.length) (hlt : p.1 < p.2) (ep : tieN ps j = p) (hk : Ks ps.length ks) (jk : (j : Int) ∈ ks) : cN n ps ks = cN (n - 1) (drawnP ps j p) (dnP j ks) := by
  have hp : InN n p := by rw [<- ep]; exact tieN_in hb (by lia) (by lia)
  obtain ⟨p1, p2, p3, p4⟩ := id hp
  have hr : Ks ps.length (ks.filter fun i => decide (i ≠ (j : Int))) := fun i hi => hk i (List.mem_filter.mp hi).1
  have e1 : cN n ps ks = cN n ps ((j : Int) :: ks.filter fun i => decide (i ≠ (j : Int))) := by
    refine c_same (by lia) hb hk (fun i hi => ?_) fun i => ?_
    · rcases List.mem_cons.mp hi with z | z
      · lia
      · exact hr i z
    · rw [List.mem_cons, List.mem_filter, decide_eq_true_iff]
      by_cases c : i = (j : Int)
      · rw [c]; exact ⟨fun _ => .inl rfl, fun _ => jk⟩
      · exact ⟨fun h => .inr ⟨h, c⟩, fun h => (h.resolve_left c).1⟩
  rw [e1]
  have go := sim_go hb hj hlt hp ep (ks.filter fun i => decide (i ≠ (j : Int))) [] hr (fun i hi => of_decide_eq_true (List.mem_filter.mp hi).2)
  refine go ?_ ?_
  · show Sim n p.1 p.2 (stepH (ups n) (tieN ps j)) (ups (n - 1))
    rw [ep]
    have lu : ((ups n).length : Int) = n := by rw [ups_len]; lia
    have lu' : ((ups (n - 1)).length : Int) = n - 1 := by rw [ups_len]; lia
    refine ⟨by rw [stepH_len]; exact lu, lu', fun x x0 xn => ?_⟩
    have mx := mvL_in hlt p1 p4 x0 xn
    unfold stepH
    rw [at_map x0 (by lia), at_ups x0 xn, at_ups p1 p2, at_ups p3 p4, at_ups mx.1 mx.2, mvL_U hlt, if_pos (show p.2 > p.1 from hlt), if_neg (show ¬ p.2 < p.1 by lia)]
  · have e2 := c_snoc (ks := []) (k := (j : Int)) (by lia) hb (fun _ z => (nomatch z)) (by lia) (by lia)
    rw [ep] at e2
    have e3 : at0 (hdF ps (ups n) []) p.1 = p.1 := at_ups p1 p2
    have e4 : at0 (hdF ps (ups n) []) p.2 = p.2 := at_ups p3 p4
    rw [e3, e4, if_neg (by lia), c_nil (by lia) n9] at e2
    show cN n ps ([] ++ [(j : Int)]) = cN (n - 1) (drawnP ps j p) []
    rw [e2, c_nil (by lia) (by lia)]
section
variable {n : Int} {ps : List (Int × Int)} {j : Nat}
theorem rk_del (h8 : ps.length <= 8) (hj : j < ps.length) {p : List Int} (hp : p ∈ allP ps) (h : (j : Int) ∈ p -> (tieN ps j).1 = (tieN ps j).2) : rkP n (wo ps j) (dnP j p) = rkP n ps p := by
  obtain ⟨ks, _⟩ := (allP_rise h8).mp hp
  unfold rkP
  rw [hd_del hj p _ (fun i hi => (ks i hi).1) h]
theorem rk_draw (ok : WebOk n ps) (hj : j < ps.length) {t : Int × Int} (et : tieN ps j = t) (hlt : t.1 < t.2) {p : List Int} (hp : p ∈ allP ps) (hk : (j : Int) ∈ p) : rkP n ps p = rkP (n - 1) (drawnP ps j t) (dnP j p) + 1 := by
  obtain ⟨⟨n1, n9⟩, hb, h8⟩ := id ok
  obtain ⟨ks, _⟩ := (allP_rise h8).mp hp
  have c := draw_c n9 hb hj hlt et ks hk
  rw [rkP_c, rkP_c, c]
  lia
theorem dn_ups {m : Nat} {k : Int} (k0 : 0 <= k) (kl : k < ((m + 1 : Nat) : Int)) : dnP k (ups ((m + 1 : Nat) : Int)) = ups (m : Int) := by
  refine up_eq (dn_up (ups_up _)) (ups_up _) fun i => ?_
  rw [mem_dn, mem_ups, mem_ups]
  unfold Uk
  split <;> lia
theorem dn_oth (m k : Int) : dnP k (oth m k) = dnP k (ups m) := by
  unfold dnP oth
  rw [List.filter_filter]
  congr 1
  refine List.filter_congr fun j _ => ?_
  by_cases h : j = k <;> simp [h]
theorem ups_all (h8 : ps.length <= 8) : ups (ps.length : Int) ∈ allP ps := (allP_rise h8).mpr ⟨ups_ks _, ups_up _⟩
theorem oth_all (h8 : ps.length <= 8) (k : Int) : oth (ps.length : Int) k ∈ allP ps := (allP_rise h8).mpr ⟨oth_ks _ _, (ups_up _).filter _⟩
theorem wo_up {α : Type} {qs : List α} (hj : j < qs.length) : (qs.length : Int) = (((wo qs j).length + 1 : Nat) : Int) := by rw [wo_len1 hj]
theorem dn_all (hj : j < ps.length) : dnP (j : Int) (ups (ps.length : Int)) = ups ((wo ps j).length : Int) := by
  rw [wo_up hj]
  exact dn_ups (by lia) (by rw [wo_len1 hj]; lia)
theorem all_curl (h8 : ps.length <= 8) (hj : j < ps.length) (curl : (tieN ps j).1 = (tieN ps j).2) : rkAll n (wo ps j) = rkAll n ps := by
  have := rk_del (n := n) h8 hj (ups_all h8) fun _ => curl
  rw [dn_all hj] at this
  exact this
theorem all_oth (h8 : ps.length <= 8) (hj : j < ps.length) : rkAll n (wo ps j) = rkP n ps (oth ps.length j) := by
  have := rk_del (n := n) h8 hj (oth_all h8 (j : Int)) fun z => absurd rfl (mem_oth.mp z).2
  rw [dn_oth, dn_all hj] at this
  exact this
theorem all_draw (ok : WebOk n ps) (hj : j < ps.length) {t : Int × Int} (et : tieN ps j = t) (hlt : t.1 < t.2) : rkAll n ps = rkAll (n - 1) (drawnP ps j t) + 1 := by
  have h := rk_draw ok hj et hlt (ups_all ok.2.2) (mem_ups.mpr ⟨by lia, by lia⟩)
  rw [dn_all hj] at h
  unfold rkAll
  rw [h, drawn_len]
theorem rk_le (ok : WebOk n ps) {p : List Int} (hp : p ∈ allP ps) : rkP n ps p <= rkAll n ps := by
  obtain ⟨⟨n1, n9⟩, hb, h8⟩ := id ok
  obtain ⟨ks, up⟩ := (allP_rise h8).mp hp
  have c := (c_app n1 hb (ups ps.length) p (ups_ks _) ks).1
  have e := c_same n1 hb (ks_app ks (ups_ks _)) (ups_ks _) fun k => ⟨fun z => by
    rcases List.mem_append.mp z with z | z
    · exact mem_ups.mpr (ks k z)
    · exact z, fun z => List.mem_append_right _ z⟩
  unfold rkAll
  rw [rkP_c, rkP_c]
  lia
end
def posP (nums A : List Int) : List Int := (ups (nums.length : Int)).filter fun i => decide (at0 nums i ∈ A)
theorem mem_pos {nums A : List Int} {i : Int} : i ∈ posP nums A ↔ (0 <= i /\ i < (nums.length : Int)) /\ at0 nums i ∈ A := by unfold posP; rw [List.mem_filter, mem_ups, decide_eq_true_iff]
theorem pos_up (nums A : List Int) : (posP nums A).Pairwise (· < ·) := (ups_up _).filter _
theorem pos_all {ps : List (Int × Int)} {nums A : List Int} (h8 : ps.length <= 8) (e : nums.length = ps.length) : posP nums A ∈ allP ps := (allP_rise h8).mpr ⟨fun k hk => by have := (mem_pos.mp hk).1; rw [e] at this; exact this, pos_up _ _⟩
theorem at_wo {nums : List Int} {j : Nat} (hj : j < nums.length) {i : Int} (i0 : 0 <= i) : at0 (wo nums j) i = at0 nums (Uk j i) := by
  obtain ⟨k, rfl⟩ := Int.eq_ofNat_of_zero_le i0
  unfold at0 wo Uk
  rw [List.getD_eq_getElem?_getD, List.getD_eq_getElem?_getD, Int.toNat_natCast]
  by_cases c : k < j
  · rw [if_pos (by lia), Int.toNat_natCast, List.getElem?_append_left (by rw [List.length_take]; lia), List.getElem?_take_of_lt c]
  · rw [if_neg (by lia), show ((k : Int) + 1).toNat = k + 1 by lia, List.getElem?_append_right (by rw [List.length_take]; lia), List.length_take, List.getElem?_drop]
    congr 2
    lia
theorem pos_dn {nums A : List Int} {j : Nat} (hj : j < nums.length) : posP (wo nums j) A = dnP j (posP nums A) := by
  refine up_eq (pos_up _ _) (dn_up (pos_up _ _)) fun i => ?_
  rw [mem_dn, mem_pos, mem_pos]
  have l := wo_len1 hj
  constructor
  · rintro ⟨⟨a, b⟩, c⟩
    rw [at_wo hj a] at c
    refine ⟨⟨?_, ?_⟩, c⟩ <;> (unfold Uk; split <;> lia)
  · rintro ⟨⟨a, b⟩, c⟩
    have i0 : 0 <= i := by
      unfold Uk at a
      split at a <;> lia
    refine ⟨⟨i0, ?_⟩, by rw [at_wo hj i0]; exact c⟩
    unfold Uk at b
    split at b <;> lia
theorem pos_congr {nums A B : List Int} (h : ∀ k ∈ nums, k ∈ A ↔ k ∈ B) : posP nums A = posP nums B := by
  refine up_eq (pos_up _ _) (pos_up _ _) fun i => ?_
  rw [mem_pos, mem_pos]
  constructor
  · rintro ⟨a, b⟩
    exact ⟨a, (h _ (at_mem a.1 a.2)).mp b⟩
  · rintro ⟨a, b⟩
    exact ⟨a, (h _ (at_mem a.1 a.2)).mpr b⟩
theorem pos_ups {m : Nat} {A : List Int} (up : A.Pairwise (· < ·)) (hA : ∀ k ∈ A, k ∈ ups (m : Int)) : posP (ups (m : Int)) A = A := by
  refine up_eq (pos_up _ _) up fun i => ?_
  rw [mem_pos, ups_len, Int.toNat_natCast]
  constructor
  · rintro ⟨a, b⟩
    rw [at_ups a.1 a.2] at b
    exact b
  · intro h
    have := mem_ups.mp (hA i h)
    exact ⟨this, by rw [at_ups this.1 this.2]; exact h⟩
structure LfOk (n : Int) (ps : List (Int × Int)) (nums : List Int) (x : Lf) : Prop where
  u1 : x.1.Pairwise (· < ·)
  u2 : x.2.1.Pairwise (· < ·)
  u3 : x.2.2.Pairwise (· < ·)
  m1 : ∀ k ∈ x.1, k ∈ nums
  m2 : ∀ k ∈ x.2.1, k ∈ x.1
  m3 : ∀ k ∈ x.2.2, k ∈ nums /\ k ∉ x.1
  len : (x.1.length : Int) = rkAll n ps
  rank : rkP n ps (posP nums x.1) = rkAll n ps
theorem wo_sub' {nums : List Int} {j : Nat} {k : Int} (h : k ∈ wo nums j) : k ∈ nums := wo_mem h
theorem wo_no {nums : List Int} {j : Nat} {t : Int} (nd : nums.Nodup) (ht : nums[j]? = some t) : t ∉ wo nums j := by
  have := (wo_perm ht).nodup_iff.mp nd
  exact (List.nodup_cons.mp this).1
theorem at_get {nums : List Int} {j : Nat} {t : Int} (ht : nums[j]? = some t) : at0 nums (j : Int) = t := by
  unfold at0
  rw [Int.toNat_natCast, List.getD_eq_getElem?_getD, ht]
  rfl
section
variable {n : Int} {ps : List (Int × Int)} {nums : List Int} {j : Nat} {t : Int}
theorem LfOk.out {y : Lf} (ok : WebOk n ps) (e : nums.length = ps.length) (nd : nums.Nodup) (hj : j < ps.length) (ht : nums[j]? = some t) (h : LfOk n (wo ps j) (wo nums j) y) (ea : rkAll n (wo ps j) = rkAll n ps) : LfOk n ps nums y := by
  have nt := wo_no nd ht
  have ny : t ∉ y.1 := fun z => nt (h.m1 t z)
  have r := rk_del (n := n) ok.2.2 hj (pos_all (A := y.1) ok.2.2 e) fun z => absurd ((mem_pos.mp z).2) (by rw [at_get ht]; exact ny)
  rw [<- pos_dn (by lia), h.rank, ea] at r
  exact ⟨h.u1, h.u2, h.u3, fun k hk => wo_sub' (h.m1 k hk), h.m2, fun k hk => ⟨wo_sub' (h.m3 k hk).1, (h.m3 k hk).2⟩, by rw [h.len, ea], r.symm⟩
theorem LfOk.addC {y : Lf} (ok : WebOk n ps) (e : nums.length = ps.length) (nd : nums.Nodup) (hj : j < ps.length) (ht : nums[j]? = some t) (h : LfOk n (wo ps j) (wo nums j) y) (ea : rkAll n (wo ps j) = rkAll n ps) : LfOk n ps nums (lC t y) := by
  have nt := wo_no nd ht
  have o := LfOk.out ok e nd hj ht h ea
  refine ⟨o.u1, o.u2, insI_rise h.u3 fun z => nt (h.m3 t z).1, o.m1, o.m2, fun k hk => ?_, o.len, o.rank⟩
  rcases insI_mem.mp hk with rfl | hk
  · exact ⟨List.mem_of_getElem? ht, fun z => nt (h.m1 k z)⟩
  · exact o.m3 k hk
theorem LfOk.inn {y : Lf} {p : Int × Int} (ok : WebOk n ps) (e : nums.length = ps.length) (nd : nums.Nodup) (hj : j < ps.length) (ht : nums[j]? = some t) (hp : tieN ps j = p) (lt : p.1 < p.2) (h : LfOk (n - 1) (drawnP ps j p) (wo nums j) y) : LfOk n ps nums (lF t y) := by
  have nt := wo_no nd ht
  have ny : t ∉ y.1 := fun z => nt (h.m1 t z)
  have tn : t ∈ nums := List.mem_of_getElem? ht
  have ea := all_draw ok hj hp lt
  have jm : (j : Int) ∈ posP nums (insI t y.1) := mem_pos.mpr ⟨⟨by lia, by lia⟩, by rw [at_get ht]; exact insI_mem.mpr (.inl rfl)⟩
  have r := rk_draw ok hj hp lt (pos_all (A := insI t y.1) ok.2.2 e) jm
  have pc : posP (wo nums j) (insI t y.1) = posP (wo nums j) y.1 := pos_congr fun k hk => by
    rw [insI_mem]
    exact ⟨fun z => z.resolve_left fun y => nt (y ▸ hk), fun z => .inr z⟩
  rw [<- pos_dn (by lia), pc, h.rank, <- ea] at r
  refine ⟨insI_rise h.u1 ny, h.u2, h.u3, fun k hk => ?_, fun k hk => insI_mem.mpr (.inr (h.m2 k hk)), fun k hk => ⟨wo_sub' (h.m3 k hk).1, fun z => ?_⟩, ?_, r⟩
  · rcases insI_mem.mp hk with rfl | hk
    · exact tn
    · exact wo_sub' (h.m1 k hk)
  · rcases insI_mem.mp z with rfl | z
    · exact nt (h.m3 k hk).1
    · exact (h.m3 k hk).2 z
  · show ((insI t y.1).length : Int) = _
    have := h.len
    rw [insI_len]
    lia
theorem LfOk.innB {y : Lf} {p : Int × Int} (ok : WebOk n ps) (e : nums.length = ps.length) (nd : nums.Nodup) (hj : j < ps.length) (ht : nums[j]? = some t) (hp : tieN ps j = p) (lt : p.1 < p.2) (h : LfOk (n - 1) (drawnP ps j p) (wo nums j) y) : LfOk n ps nums (lB t y) := by
  have nt := wo_no nd ht
  have o := LfOk.inn ok e nd hj ht hp lt h
  refine ⟨o.u1, insI_rise h.u2 fun z => nt (h.m1 t (h.m2 t z)), o.u3, o.m1, fun k hk => ?_, o.m3, o.len, o.rank⟩
  rcases insI_mem.mp hk with rfl | hk
  · exact insI_mem.mpr (.inl rfl)
  · exact o.m2 k hk
end
theorem map_ins_nodup {t : Int} {M : List Lf} {f : Lf -> Lf} (hf : ∀ x, (f x).1 = insI t x.1) (nd : (M.map fun x => x.1).Nodup) (up : ∀ x ∈ M, x.1.Pairwise (· < ·) /\ t ∉ x.1) : ((M.map f).map fun x => x.1).Nodup := by
  rw [List.map_map]
  induction M with
  | nil => exact .nil
  | cons x M ih =>
    rw [List.map_cons, List.nodup_cons] at nd ⊢
    refine ⟨fun z => ?_, ih nd.2 fun y hy => up y (List.mem_cons_of_mem _ hy)⟩
    obtain ⟨y, hy, e⟩ := List.mem_map.mp z
    have ux := up x List.mem_cons_self
    have uy := up y (List.mem_cons_of_mem _ hy)
    have e : insI t y.1 = insI t x.1 := by rw [<- hf, <- hf]; exact e
    exact nd.1 (by rw [<- insI_inj uy.1 ux.1 uy.2 ux.2 e]; exact List.mem_map_of_mem hy)
theorem lvs_ok : ∀ (d : Nat) (n : Int) (ps : List (Int × Int)) (nums ord : List Int), OkS d n ps nums ord -> (∀ x ∈ lvs (stpM d n ps nums ord), LfOk n ps nums x) /\ ((lvs (stpM d n ps nums ord)).map fun x => x.1).Nodup
  | 0, n, ps, nums, ord, S => by
    have e : ps = [] := List.length_eq_zero_iff.mp S.len
    subst e
    obtain ⟨⟨n1, n9⟩, hb, h8⟩ := S.ok
    have z : rkAll n [] = 0 := by
      show n - cN n [] (ups ((0 : Nat) : Int)) = 0
      have := c_nil (ps := []) n1 n9
      rw [show ups ((0 : Nat) : Int) = [] from rfl, this]
      lia
    refine ⟨fun x hx => ?_, List.nodup_cons.mpr ⟨fun z => (nomatch z), .nil⟩⟩
    rw [List.mem_singleton.mp hx]
    refine ⟨.nil, .nil, .nil, fun k hk => (nomatch hk), fun k hk => (nomatch hk), fun k hk => (nomatch hk), by rw [z]; rfl, ?_⟩
    have en : nums = [] := List.length_eq_zero_iff.mp S.nl
    subst en
    rfl
  | d + 1, n, ps, nums, ord, S => by
    obtain ⟨jl, jat⟩ := S.at
    have okL := S.left
    have okD := S.draw
    have lt0 := S.lt
    have ok := S.ok
    have nd := S.nd
    have e : nums.length = ps.length := by rw [S.nl, S.len]
    unfold stpM
    generalize ord.dropLast = ah at okL okD
    generalize ord.getLastD 0 = tie at jl jat okL okD lt0
    generalize nums.idxOf tie = j at jl jat okL okD lt0
    have nt := wo_no nd jat
    by_cases hc : (tieN ps j).1 = (tieN ps j).2
    · rw [if_pos hc]
      obtain ⟨h1, h2⟩ := lvs_ok d n (wo ps j) (wo nums j) ah okL
      have ea := all_curl (n := n) ok.2.2 jl hc
      refine ⟨fun x hx => ?_, ?_⟩
      · obtain ⟨y, hy, rfl⟩ := List.mem_map.mp hx
        exact LfOk.addC ok e nd jl jat (h1 y hy) ea
      · show ((List.map (lC tie) _).map fun x => x.1).Nodup
        rw [List.map_map]
        exact h2
    · rw [if_neg hc]
      have lt := lt0 hc
      obtain ⟨g1, g2⟩ := lvs_ok d (n - 1) (drawnP ps j (tieN ps j)) (wo nums j) ah (okD hc)
      by_cases hb : rkP n ps (oth ps.length j) < rkAll n ps
      · rw [if_pos hb]
        refine ⟨fun x hx => ?_, map_ins_nodup (t := tie) (fun _ => rfl) g2 fun y hy => ⟨(g1 y hy).u1, fun z => nt ((g1 y hy).m1 _ z)⟩⟩
        obtain ⟨y, hy, rfl⟩ := List.mem_map.mp hx
        exact LfOk.innB ok e nd jl jat rfl lt (g1 y hy)
      · rw [if_neg hb]
        obtain ⟨h1, h2⟩ := lvs_ok d n (wo ps j) (wo nums j) ah okL
        have ea : rkAll n (wo ps j) = rkAll n ps := by
          have a := all_oth (n := n) ok.2.2 jl
          have b := rk_le ok (oth_all ok.2.2 (j : Int))
          lia
        refine ⟨fun x hx => ?_, ?_⟩
        · rcases List.mem_append.mp hx with hx | hx
          · exact LfOk.out ok e nd jl jat (h1 x hx) ea
          · obtain ⟨y, hy, rfl⟩ := List.mem_map.mp hx
            exact LfOk.inn ok e nd jl jat rfl lt (g1 y hy)
        · show ((lvs _ ++ (lvs _).map (lF tie)).map fun x => x.1).Nodup
          rw [List.map_append]
          refine List.nodup_append.mpr ⟨h2, map_ins_nodup (t := tie) (fun _ => rfl) g2 fun y hy => ⟨(g1 y hy).u1, fun z => nt ((g1 y hy).m1 _ z)⟩, fun a ha b hb z => ?_⟩
          obtain ⟨x, hx, rfl⟩ := List.mem_map.mp ha
          obtain ⟨y, hy, rfl⟩ := List.mem_map.mp hb
          obtain ⟨w, _, rfl⟩ := List.mem_map.mp hy
          have z : x.1 = insI tie w.1 := z
          have : tie ∈ x.1 := by rw [z]; exact insI_mem.mpr (.inl rfl)
          exact nt ((h1 x hx).m1 tie this)
structure RN (r : List Int -> Int) : Prop where
  same : ∀ {X Y : List Int}, (∀ k, k ∈ X ↔ k ∈ Y) -> r X = r Y
  mono : ∀ (X D : List Int), r X <= r (X ++ D)
  unit : ∀ (X : List Int) (c : Int), r (X ++ [c]) <= r X + 1
  sub : ∀ {X Y : List Int} (D : List Int), (∀ k ∈ X, k ∈ Y) -> r (Y ++ D) - r Y <= r (X ++ D) - r X
  nil : r [] = 0
def rhoN (n : Int) (ps : List (Int × Int)) (nums X : List Int) : Int := rkP n ps (posP nums X)
theorem pos_one {nums : List Int} (nd : nums.Nodup) (c : Int) : (posP nums [c]).length <= 1 := by
  have h := pos_up nums [c]
  have all : ∀ i ∈ posP nums [c], ∀ j ∈ posP nums [c], i = j := fun i hi j hj => by
    obtain ⟨⟨i0, il⟩, ei⟩ := mem_pos.mp hi
    obtain ⟨⟨j0, jl⟩, ej⟩ := mem_pos.mp hj
    obtain ⟨a, rfl⟩ := Int.eq_ofNat_of_zero_le i0
    obtain ⟨b, rfl⟩ := Int.eq_ofNat_of_zero_le j0
    have ga : nums[a]? = some c := by
      have al : a < nums.length := by lia
      rw [List.getElem?_eq_getElem al, <- List.mem_singleton.mp ei]
      unfold at0
      rw [Int.toNat_natCast]
      simp [List.getD, al]
    have gb : nums[b]? = some c := by
      have bl : b < nums.length := by lia
      rw [List.getElem?_eq_getElem bl, <- List.mem_singleton.mp ej]
      unfold at0
      rw [Int.toNat_natCast]
      simp [List.getD, bl]
    have := (List.getElem?_inj (by lia) nd).mp (ga.trans gb.symm)
    rw [this]
  match hl : posP nums [c], h, all with
  | [], _, _ => exact Nat.zero_le _
  | [_], _, _ => exact Nat.le_refl _
  | x :: y :: l, h, all =>
    have := (List.pairwise_cons.mp h).1 y List.mem_cons_self
    have := all x List.mem_cons_self y (List.mem_cons_of_mem _ List.mem_cons_self)
    lia
theorem rho_ok {n : Int} {ps : List (Int × Int)} {nums : List Int} (ok : WebOk n ps) (nd : nums.Nodup) (e : nums.length = ps.length) : RN (rhoN n ps nums) := by
  obtain ⟨⟨n1, n9⟩, hb, h8⟩ := id ok
  have ks : ∀ X, Ks ps.length (posP nums X) := fun X k hk => by have := (mem_pos.mp hk).1; rw [e] at this; exact this
  have app : ∀ X D, rhoN n ps nums (X ++ D) = n - cN n ps (posP nums X ++ posP nums D) := fun X D => by
    unfold rhoN
    rw [rkP_c, c_same n1 hb (ks _) (ks_app (ks X) (ks D)) fun k => ?_]
    rw [List.mem_append, mem_pos, mem_pos, mem_pos, List.mem_append]
    exact ⟨fun z => z.2.elim (fun y => .inl ⟨z.1, y⟩) fun y => .inr ⟨z.1, y⟩, fun z => z.elim (fun y => ⟨y.1, .inl y.2⟩) fun y => ⟨y.1, .inr y.2⟩⟩
  have one : ∀ X, rhoN n ps nums X = n - cN n ps (posP nums X) := fun X => rfl
  refine ⟨fun h => by unfold rhoN; rw [pos_congr fun k _ => h k], fun X D => ?_, fun X c => ?_, fun {X Y} D h => ?_, ?_⟩
  · rw [app, one]
    have := c_app n1 hb (posP nums D) (posP nums X) (ks D) (ks X)
    lia
  · rw [app, one]
    have := c_app n1 hb (posP nums [c]) (posP nums X) (ks _) (ks X)
    have := pos_one nd c
    lia
  · rw [app, app, one, one]
    have := c_sub n1 hb (posP nums D) (posP nums X) (posP nums Y) (ks D) (ks X) (ks Y) fun k hk => by
      obtain ⟨a, b⟩ := mem_pos.mp hk
      exact mem_pos.mpr ⟨a, h _ b⟩
    lia
  · rw [one]
    have : posP nums [] = [] := List.filter_eq_nil_iff.mpr fun k _ => by simp
    rw [this, c_nil n1 n9]
    lia
section
variable {r : List Int -> Int}
theorem RN.le_len (R : RN r) : ∀ X : List Int, r X <= X.length := fun X => by
  have go : ∀ j, j <= X.length -> r (X.take j) <= j := by
    intro j
    induction j with
    | zero => intro _; rw [List.take_zero, R.nil]; exact Int.le_refl _
    | succ j ih =>
      intro h
      have e : X[j]? = some X[j] := List.getElem?_eq_getElem h
      rw [take_succ_of e]
      have := R.unit (X.take j) X[j]
      have := ih (by lia)
      lia
  have := go X.length (Nat.le_refl _)
  rw [List.take_length] at this
  exact this
theorem RN.gain (R : RN r) (X D : List Int) : r (X ++ D) <= r X + D.length := by
  have s := R.sub (X := []) (Y := X) D fun k hk => nomatch hk
  rw [List.nil_append, R.nil] at s
  have := R.le_len D
  lia
theorem RN.incl (R : RN r) {X Y : List Int} (h : ∀ k ∈ X, k ∈ Y) : r X <= r Y := by
  have := R.mono X Y
  rwa [R.same (X := X ++ Y) (Y := Y) fun k => by rw [List.mem_append]; exact ⟨fun z => z.elim (h k) id, .inr⟩] at this
theorem RN.closed (R : RN r) {X : List Int} : ∀ L : List Int, (∀ c ∈ L, r (X ++ [c]) = r X) -> r (X ++ L) = r X
  | [], _ => by rw [List.append_nil]
  | c :: L, h => by
    have ih := R.closed L fun k hk => h k (List.mem_cons_of_mem _ hk)
    have s := R.sub (X := X) (Y := X ++ L) [c] fun k hk => List.mem_append_left _ hk
    have m := R.mono (X ++ L) [c]
    have e : r (X ++ (c :: L)) = r (X ++ L ++ [c]) := R.same fun k => by simp only [List.mem_append, List.mem_cons, List.not_mem_nil, or_false]; exact ⟨fun z => by rcases z with z | z | z; exact .inl (.inl z); exact .inr z; exact .inl (.inr z), fun z => by rcases z with (z | z) | z; exact .inl z; exact .inr (.inr z); exact .inr (.inl z)⟩
    have := h c List.mem_cons_self
    lia
theorem mem_dropG {t : List Int} {g k : Int} : k ∈ dropG t g ↔ k ∈ t /\ k ≠ g := by unfold dropG; rw [List.mem_filter, decide_eq_true_iff]
theorem RN.loop (R : RN r) {T : List Int} {t : Int} (nd : T.Nodup) (ind : r T = T.length) (h0 : r (T ++ [t]) = r T) (h : ∀ g ∈ T, r (dropG T g ++ [t]) = r (dropG T g)) : r [t] = 0 := by
  have sub : ∀ j, j <= T.length -> r (T.drop j ++ [t]) = (T.drop j).length := by
    intro j
    induction j with
    | zero => intro _; rw [List.drop_zero, h0, ind]
    | succ j ih =>
      intro hj
      have ih := ih (by lia)
      have dr : T.drop j = T[j] :: T.drop (j + 1) := (List.getElem_cons_drop ..).symm
      generalize hg : T[j] = g at dr
      have gT : g ∈ T := by rw [<- hg]; exact List.getElem_mem _
      generalize hz : T.drop (j + 1) = Z at dr ih ⊢
      rw [dr] at ih
      have zT : ∀ k ∈ Z, k ∈ T := fun k hk => by rw [<- hz] at hk; exact List.mem_of_mem_drop hk
      have gz : g ∉ Z := by
        have := nd.sublist (List.drop_sublist j T)
        rw [dr] at this
        exact (List.nodup_cons.mp this).1
      have s := R.sub (X := Z ++ [t]) (Y := dropG T g ++ [t]) [g] fun k hk => by
        rcases List.mem_append.mp hk with hk | hk
        · exact List.mem_append_left _ (mem_dropG.mpr ⟨zT k hk, fun z => gz (z ▸ hk)⟩)
        · exact List.mem_append_right _ hk
      have e1 : r (dropG T g ++ [t] ++ [g]) = r (T ++ [t]) := R.same fun k => by
        simp only [List.mem_append, List.mem_singleton, mem_dropG]
        constructor
        · rintro ((z | z) | z)
          · exact .inl z.1
          · exact .inr z
          · exact .inl (z ▸ gT)
        · rintro (z | z)
          · by_cases c : k = g
            · exact .inr c
            · exact .inl (.inl ⟨z, c⟩)
          · exact .inl (.inr z)
      have e2 : r (Z ++ [t] ++ [g]) = r ((g :: Z) ++ [t]) := R.same fun k => by
        simp only [List.mem_append, List.mem_cons, List.not_mem_nil, or_false]
        exact ⟨fun z => by rcases z with (z | z) | z; exact .inl (.inr z); exact .inr z; exact .inl (.inl z), fun z => by rcases z with (z | z) | z; exact .inr z; exact .inl (.inl z); exact .inl (.inr z)⟩
      have hg' := h g gT
      have dl : r (dropG T g) <= (T.length : Int) - 1 := by
        have a := R.le_len (dropG T g)
        have lt : (dropG T g).length < T.length := by
          unfold dropG
          exact List.length_filter_lt_length_iff_exists.mpr ⟨g, gT, by simp⟩
        lia
      have lz : r Z = Z.length := by
        have a := R.le_len Z
        have b := R.gain Z (T.take (j + 1))
        have c : r (Z ++ T.take (j + 1)) = r T := R.same fun k => by
          rw [List.mem_append, <- hz]
          have := List.take_append_drop (j + 1) T
          constructor
          · rintro (y | y)
            · exact List.mem_of_mem_drop y
            · exact List.mem_of_mem_take y
          · intro y
            rw [<- this] at y
            exact (List.mem_append.mp y).symm
        have d : (T.take (j + 1)).length = j + 1 := by rw [List.length_take]; lia
        have f : Z.length = T.length - (j + 1) := by rw [<- hz, List.length_drop]
        lia
      have m := R.mono Z [t]
      rw [List.length_cons] at ih
      lia
  have := sub T.length (Nat.le_refl _)
  rw [List.drop_length] at this
  exact this
end
def AI (r : List Int -> Int) (ord T : List Int) (k : Int) : Prop := ∀ c ∈ ord.take (ixOf ord k), r (dropG T k ++ [c]) = r (dropG T k)
def AO (r : List Int -> Int) (ord T : List Int) (k : Int) : Prop := ∀ g ∈ ord.take (ixOf ord k), g ∈ T -> r (dropG T g ++ [k]) = r (dropG T g)
structure Act (r : List Int -> Int) (nums ord : List Int) (x : Lf) : Prop where
  inn : ∀ k, k ∈ x.2.1 ↔ k ∈ x.1 /\ AI r ord x.1 k
  out : ∀ k, k ∈ x.2.2 ↔ k ∈ nums /\ k ∉ x.1 /\ AO r ord x.1 k
theorem bef_in : ∀ {ah : List Int} {t k : Int}, k ∈ ah -> (ah ++ [t]).take (ixOf (ah ++ [t]) k) = ah.take (ixOf ah k)
  | x :: l, t, k, h => by
    show (x :: (l ++ [t])).take (if x = k then 0 else ixOf (l ++ [t]) k + 1) = (x :: l).take (if x = k then 0 else ixOf l k + 1)
    by_cases c : x = k
    · rw [if_pos c, if_pos c]; rfl
    · rw [if_neg c, if_neg c, List.take_succ_cons, List.take_succ_cons, bef_in ((List.mem_cons.mp h).resolve_left fun z => c z.symm)]
theorem bef_last : ∀ {ah : List Int} {t : Int}, t ∉ ah -> (ah ++ [t]).take (ixOf (ah ++ [t]) t) = ah
  | [], t, _ => by
    show [t].take (if t = t then 0 else _) = []
    rw [if_pos rfl]
    rfl
  | x :: l, t, h => by
    show (x :: (l ++ [t])).take (if x = t then 0 else ixOf (l ++ [t]) t + 1) = x :: l
    rw [if_neg (fun z => h (by rw [z]; exact List.mem_cons_self)), List.take_succ_cons, bef_last fun z => h (List.mem_cons_of_mem _ z)]
section
variable {r r' : List Int -> Int} {nums nums' ah : List Int} {t : Int} {y : Lf}
theorem act_same (del : ∀ X, t ∉ X -> r' X = r X) (ta : t ∉ ah) (pa : ∀ k, k ∈ ah ↔ k ∈ nums') (pn : ∀ k, k ∈ nums ↔ k = t \/ k ∈ nums') (y1 : ∀ k ∈ y.1, k ∈ nums') (A : Act r' nums' ah y) :
    (∀ k, k ∈ y.2.1 ↔ k ∈ y.1 /\ AI r (ah ++ [t]) y.1 k) /\ ∀ k, k ≠ t -> (k ∈ y.2.2 ↔ k ∈ nums /\ k ∉ y.1 /\ AO r (ah ++ [t]) y.1 k) := by
  have ny : ∀ g, t ∉ dropG y.1 g := fun g z => ta ((pa t).mpr (y1 t (mem_dropG.mp z).1))
  have cut : ∀ k c, c ∈ ah.take (ixOf ah k) -> c ≠ t := fun k c hc z => ta (z ▸ List.mem_of_mem_take hc)
  refine ⟨fun k => ?_, fun k kt => ?_⟩
  · rw [A.inn]
    refine and_congr_right fun hk => ?_
    unfold AI
    rw [bef_in ((pa k).mpr (y1 k hk))]
    refine forall_congr' fun c => forall_congr' fun hc => ?_
    have nc : t ∉ dropG y.1 k ++ [c] := fun z => by
      rcases List.mem_append.mp z with z | z
      · exact ny k z
      · exact cut k c hc (List.mem_singleton.mp z).symm
    rw [del _ nc, del _ (ny k)]
  · rw [A.out, pn]
    constructor
    · rintro ⟨a, b, c⟩
      refine ⟨.inr a, b, ?_⟩
      unfold AO at c ⊢
      rw [bef_in ((pa k).mpr a)]
      intro g hg gT
      have := c g hg gT
      rwa [del _ (fun z => by rcases List.mem_append.mp z with z | z; exact ny g z; exact kt (List.mem_singleton.mp z).symm), del _ (ny g)] at this
    · rintro ⟨a, b, c⟩
      have a := a.resolve_left kt
      refine ⟨a, b, ?_⟩
      unfold AO at c ⊢
      rw [bef_in ((pa k).mpr a)] at c
      intro g hg gT
      rw [del _ (fun z => by rcases List.mem_append.mp z with z | z; exact ny g z; exact kt (List.mem_singleton.mp z).symm), del _ (ny g)]
      exact c g hg gT
theorem act_draw (R : RN r) (con : ∀ X, r (X ++ [t]) = r' X + 1) (ta : t ∉ ah) (pa : ∀ k, k ∈ ah ↔ k ∈ nums') (pn : ∀ k, k ∈ nums ↔ k = t \/ k ∈ nums') (y1 : ∀ k ∈ y.1, k ∈ nums') (y2 : ∀ k ∈ y.2.1, k ∈ y.1) (y3 : ∀ k ∈ y.2.2, k ∈ nums') (A : Act r' nums' ah y) :
    (∀ k, k ≠ t -> (k ∈ y.2.1 ↔ k ∈ insI t y.1 /\ AI r (ah ++ [t]) (insI t y.1) k)) /\ ∀ k, k ∈ y.2.2 ↔ k ∈ nums /\ k ∉ insI t y.1 /\ AO r (ah ++ [t]) (insI t y.1) k := by
  have nt : t ∉ nums' := fun z => ta ((pa t).mpr z)
  have dr : ∀ g, g ≠ t -> ∀ L, r (dropG (insI t y.1) g ++ L) = r' (dropG y.1 g ++ L) + 1 := fun g gt L => by
    rw [<- con]
    refine R.same fun k => ?_
    simp only [List.mem_append, List.mem_singleton, mem_dropG, insI_mem]
    constructor
    · rintro (⟨z | z, w⟩ | z)
      · exact .inr z
      · exact .inl (.inl ⟨z, w⟩)
      · exact .inl (.inr z)
    · rintro ((⟨z, w⟩ | z) | z)
      · exact .inl ⟨.inr z, w⟩
      · exact .inr z
      · exact .inl ⟨.inl z, fun q => gt (q ▸ z ▸ rfl)⟩
  have dr0 : ∀ g, g ≠ t -> r (dropG (insI t y.1) g) = r' (dropG y.1 g) + 1 := fun g gt => by
    have := dr g gt []
    rwa [List.append_nil, List.append_nil] at this
  refine ⟨fun k kt => ?_, fun k => ?_⟩
  · rw [A.inn, insI_mem]
    constructor
    · rintro ⟨a, b⟩
      refine ⟨.inr a, ?_⟩
      unfold AI at b ⊢
      rw [bef_in ((pa k).mpr (y1 k a))]
      intro c hc
      rw [dr k kt, dr0 k kt, b c hc]
    · rintro ⟨a, b⟩
      have a := a.resolve_left kt
      refine ⟨a, ?_⟩
      unfold AI at b ⊢
      rw [bef_in ((pa k).mpr (y1 k a))] at b
      intro c hc
      have := b c hc
      rw [dr k kt, dr0 k kt] at this
      lia
  · rw [A.out, pn, insI_mem]
    constructor
    · rintro ⟨a, b, c⟩
      have kt : k ≠ t := fun z => nt (z ▸ a)
      refine ⟨.inr a, fun z => z.elim kt b, ?_⟩
      unfold AO at c ⊢
      rw [bef_in ((pa k).mpr a)]
      intro g hg gT
      have gt : g ≠ t := fun z => ta (z ▸ List.mem_of_mem_take hg)
      rw [dr g gt, dr0 g gt, c g hg ((insI_mem.mp gT).resolve_left gt)]
    · rintro ⟨a, b, c⟩
      have kt : k ≠ t := fun z => b (.inl z)
      have a := a.resolve_left kt
      refine ⟨a, fun z => b (.inr z), ?_⟩
      unfold AO at c ⊢
      rw [bef_in ((pa k).mpr a)] at c
      intro g hg gT
      have gt : g ≠ t := fun z => ta (z ▸ List.mem_of_mem_take hg)
      have := c g hg (insI_mem.mpr (.inr gT))
      rw [dr g gt, dr0 g gt] at this
      lia
end
theorem pos_self {nums : List Int} : posP nums nums = ups (nums.length : Int) := by
  refine up_eq (pos_up _ _) (ups_up _) fun i => ?_
  rw [mem_pos, mem_ups]
  exact ⟨fun z => z.1, fun z => ⟨z, at_mem z.1 z.2⟩⟩
theorem rho_self {n : Int} {ps : List (Int × Int)} {nums : List Int} (e : nums.length = ps.length) : rhoN n ps nums nums = rkAll n ps := by
  unfold rhoN rkAll
  rw [pos_self, e]
theorem lvs_act : ∀ (d : Nat) (n : Int) (ps : List (Int × Int)) (nums ord : List Int), OkS d n ps nums ord -> ∀ x ∈ lvs (stpM d n ps nums ord), Act (rhoN n ps nums) nums ord x
  | 0, n, ps, nums, ord, S, x, hx => by
    have en : nums = [] := List.length_eq_zero_iff.mp S.nl
    subst en
    rw [List.mem_singleton.mp hx]
    exact ⟨fun k => ⟨fun z => (nomatch z), fun z => (nomatch z.1)⟩, fun k => ⟨fun z => (nomatch z), fun z => (nomatch z.1)⟩⟩
  | d + 1, n, ps, nums, ord, S, x, hx => by
    obtain ⟨oe, _⟩ := S.last
    obtain ⟨jl, jat⟩ := S.at
    have okL := S.left
    have okD := S.draw
    have lt0 := S.lt
    have ok := S.ok
    have nd := S.nd
    have e : nums.length = ps.length := by rw [S.nl, S.len]
    have rest := S.rest.2.2
    unfold stpM at hx
    generalize ord.dropLast = ah at oe okL okD rest hx
    generalize ord.getLastD 0 = tie at oe jl jat okL okD lt0 rest hx
    generalize nums.idxOf tie = j at jl jat okL okD lt0 rest hx
    subst oe
    have nt := wo_no nd jat
    have pa : ∀ k, k ∈ ah ↔ k ∈ wo nums j := fun k => rest.mem_iff
    have ta : tie ∉ ah := fun z => nt ((pa tie).mp z)
    have pn : ∀ k, k ∈ nums ↔ k = tie \/ k ∈ wo nums j := fun k => by rw [(wo_perm jat).mem_iff, List.mem_cons]
    have R := rho_ok ok nd e
    have e' : (wo nums j).length = (wo ps j).length := by
      have a := wo_len1 (qs := nums) (j := j) (by lia)
      have b := wo_len1 jl
      lia
    have del : ∀ X, tie ∉ X -> rhoN n (wo ps j) (wo nums j) X = rhoN n ps nums X := fun X hX => by
      unfold rhoN
      rw [pos_dn (by lia)]
      exact rk_del ok.2.2 jl (pos_all ok.2.2 e) fun z => absurd (mem_pos.mp z).2 (by rw [at_get jat]; exact hX)
    have woR : rhoN n ps nums (wo nums j) = rkP n ps (oth ps.length j) := by
      rw [<- del _ nt, rho_self e', all_oth ok.2.2 jl]
    have top : ∀ X, rhoN n ps nums X <= rkAll n ps := fun X => rk_le ok (pos_all ok.2.2 e)
    by_cases hc : (tieN ps j).1 = (tieN ps j).2
    · rw [if_pos hc] at hx
      obtain ⟨y, hy, rfl⟩ := List.mem_map.mp hx
      have A := lvs_act d n (wo ps j) (wo nums j) ah okL y hy
      have L := (lvs_ok d n (wo ps j) (wo nums j) ah okL).1 y hy
      have loop : ∀ X, rhoN n ps nums (X ++ [tie]) = rhoN n ps nums X := fun X => by
        have a : ∀ Y, rhoN n ps nums Y = rhoN n (wo ps j) (wo nums j) Y := fun Y => by
          unfold rhoN
          rw [pos_dn (by lia)]
          exact (rk_del ok.2.2 jl (pos_all ok.2.2 e) fun _ => hc).symm
        rw [a, a]
        unfold rhoN
        rw [pos_congr (A := X ++ [tie]) (B := X) fun k hk => by
          rw [List.mem_append, List.mem_singleton]
          exact ⟨fun z => z.resolve_right fun y => nt (y ▸ hk), .inl⟩]
      obtain ⟨s1, s2⟩ := act_same (r := rhoN n ps nums) (nums := nums) del ta pa pn L.m1 A
      refine ⟨s1, fun k => ?_⟩
      show k ∈ insI tie y.2.2 ↔ k ∈ nums /\ k ∉ y.1 /\ AO (rhoN n ps nums) (ah ++ [tie]) y.1 k
      rw [insI_mem]
      by_cases kt : k = tie
      · subst kt
        exact ⟨fun _ => ⟨(pn k).mpr (.inl rfl), fun z => nt (L.m1 k z), fun g _ _ => loop _⟩, fun _ => .inl rfl⟩
      · rw [<- s2 k kt]
        exact ⟨fun z => z.resolve_left kt, .inr⟩
    rw [if_neg hc] at hx
    have lt := lt0 hc
    have okD := okD hc
    have con : ∀ X, rhoN n ps nums (X ++ [tie]) = rhoN (n - 1) (drawnP ps j (tieN ps j)) (wo nums j) X + 1 := fun X => by
      unfold rhoN
      have r := rk_draw ok jl rfl lt (pos_all (A := X ++ [tie]) ok.2.2 e) (mem_pos.mpr ⟨⟨by lia, by lia⟩, by rw [at_get jat]; exact List.mem_append_right _ List.mem_cons_self⟩)
      rw [r, <- pos_dn (by lia), pos_congr (A := X ++ [tie]) (B := X) fun k hk => by
          rw [List.mem_append, List.mem_singleton]
          exact ⟨fun z => z.resolve_right fun y => nt (y ▸ hk), .inl⟩]
    have ea := all_draw ok jl rfl lt
    have within : ∀ y, LfOk (n - 1) (drawnP ps j (tieN ps j)) (wo nums j) y -> rhoN n ps nums (dropG (insI tie y.1) tie) = rhoN n ps nums y.1 /\ (∀ c, rhoN n ps nums (dropG (insI tie y.1) tie ++ [c]) = rhoN n ps nums (y.1 ++ [c])) /\ rhoN n ps nums y.1 = rkAll n ps - 1 /\ ∀ L, rhoN n ps nums (dropG (insI tie y.1) tie ++ L) = rhoN n ps nums (y.1 ++ L) := fun y L => by
      have mm : ∀ k, k ∈ dropG (insI tie y.1) tie ↔ k ∈ y.1 := fun k => by
        rw [mem_dropG, insI_mem]
        exact ⟨fun z => z.1.resolve_left z.2, fun z => ⟨.inr z, fun q => nt (q ▸ L.m1 k z)⟩⟩
      have all : ∀ M, rhoN n ps nums (dropG (insI tie y.1) tie ++ M) = rhoN n ps nums (y.1 ++ M) := fun M => R.same fun k => by rw [List.mem_append, List.mem_append, mm]
      refine ⟨R.same mm, fun c => all [c], ?_, all⟩
      have a := con y.1
      have b : rhoN (n - 1) (drawnP ps j (tieN ps j)) (wo nums j) y.1 = rkAll (n - 1) (drawnP ps j (tieN ps j)) := L.rank
      have c := R.unit y.1 tie
      have g := R.le_len y.1
      have l := L.len
      lia
    by_cases hbr : rkP n ps (oth ps.length j) < rkAll n ps
    · rw [if_pos hbr] at hx
      obtain ⟨y, hy, rfl⟩ := List.mem_map.mp hx
      have A := lvs_act d (n - 1) _ (wo nums j) ah okD y hy
      have L := (lvs_ok d (n - 1) _ (wo nums j) ah okD).1 y hy
      obtain ⟨s1, s2⟩ := act_draw (r := rhoN n ps nums) (nums := nums) R con ta pa pn L.m1 L.m2 (fun k hk => (L.m3 k hk).1) A
      obtain ⟨w1, w2, w3, w4⟩ := within y L
      refine ⟨fun k => ?_, s2⟩
      show k ∈ insI tie y.2.1 ↔ k ∈ insI tie y.1 /\ AI _ _ (insI tie y.1) k
      by_cases kt : k = tie
      · subst kt
        refine ⟨fun _ => ⟨insI_mem.mpr (.inl rfl), ?_⟩, fun _ => insI_mem.mpr (.inl rfl)⟩
        unfold AI
        rw [bef_last ta]
        intro c hc
        rw [w1, w2]
        have a := R.mono y.1 [c]
        have b := R.incl (X := y.1 ++ [c]) (Y := wo nums j) fun k hk => by
          rcases List.mem_append.mp hk with hk | hk
          · exact L.m1 k hk
          · rw [List.mem_singleton.mp hk]; exact (pa c).mp hc
        lia
      · rw [<- s1 k kt, insI_mem]
        exact ⟨fun z => z.resolve_left kt, .inr⟩
    · rw [if_neg hbr] at hx
      have full : rhoN n ps nums (wo nums j) = rkAll n ps := by
        have := top (wo nums j)
        lia
      rcases List.mem_append.mp hx with hx | hx
      · have A := lvs_act d n (wo ps j) (wo nums j) ah okL x hx
        have ea' : rkAll n (wo ps j) = rkAll n ps := by rw [all_oth ok.2.2 jl, <- woR, full]
        have L0 := (lvs_ok d n (wo ps j) (wo nums j) ah okL).1 x hx
        have L := LfOk.out ok e nd jl jat L0 ea'
        obtain ⟨s1, s2⟩ := act_same (r := rhoN n ps nums) (nums := nums) del ta pa pn L0.m1 A
        refine ⟨s1, fun k => ?_⟩
        by_cases kt : k = tie
        · subst kt
          refine ⟨fun z => absurd (L0.m3 k z).1 nt, fun z => ?_⟩
          exfalso
          have ao := z.2.2
          unfold AO at ao
          rw [bef_last ta] at ao
          have rx : rhoN n ps nums x.1 = rkAll n ps := L.rank
          have h0 : rhoN n ps nums (x.1 ++ [k]) = rhoN n ps nums x.1 := by
            have a := top (x.1 ++ [k])
            have b := R.mono x.1 [k]
            lia
          have l0 := R.loop (T := x.1) (t := k) (L.u1.imp fun h => by lia) (by rw [rx, L.len]) h0 fun g hg => ao g ((pa g).mpr (L0.m1 g hg)) hg
          have c0 := con []
          rw [List.nil_append, l0] at c0
          have R' := rho_ok okD.ok (nd.sublist wo_sub) (by rw [okD.nl, okD.len])
          have := R'.nil
          lia
        · exact s2 k kt
      · obtain ⟨y, hy, rfl⟩ := List.mem_map.mp hx
        have A := lvs_act d (n - 1) _ (wo nums j) ah okD y hy
        have L := (lvs_ok d (n - 1) _ (wo nums j) ah okD).1 y hy
        obtain ⟨s1, s2⟩ := act_draw (r := rhoN n ps nums) (nums := nums) R con ta pa pn L.m1 L.m2 (fun k hk => (L.m3 k hk).1) A
        obtain ⟨w1, w2, w3, w4⟩ := within y L
        refine ⟨fun k => ?_, s2⟩
        show k ∈ y.2.1 ↔ k ∈ insI tie y.1 /\ AI _ _ (insI tie y.1) k
        by_cases kt : k = tie
        · subst kt
          refine ⟨fun z => absurd (L.m1 k (L.m2 k z)) nt, fun z => ?_⟩
          exfalso
          have ai := z.2
          unfold AI at ai
          rw [bef_last ta] at ai
          have cl := R.closed (X := dropG (insI k y.1) k) ah ai
          rw [w4, w1] at cl
          have a := R.incl (X := wo nums j) (Y := y.1 ++ ah) fun c hc => List.mem_append_right _ ((pa c).mpr hc)
          lia
        · exact s1 k kt
section
variable {n : Int} {ps : List (Int × Int)}
theorem rho_top (ok : WebOk n ps) {X : List Int} (hX : Ks ps.length X) : rhoN n ps (ups ps.length) X = n - cN n ps X := by
  obtain ⟨⟨n1, n9⟩, hb, h8⟩ := id ok
  unfold rhoN
  rw [rkP_c, c_same n1 hb (fun k hk => by have := (mem_pos.mp hk).1; rw [ups_len] at this; lia) hX fun k => ?_]
  rw [mem_pos, ups_len, Int.toNat_natCast]
  exact ⟨fun z => by have := z.2; rwa [at_ups z.1.1 z.1.2] at this, fun z => ⟨hX k z, by have h := hX k z; rw [at_ups h.1 h.2]; exact z⟩⟩
theorem ac_rho (ok : WebOk n ps) {T : List Int} (hT : Ks ps.length T) {g c : Int} (c0 : 0 <= c) (cl : c < ps.length) : acB n ps T g c = true ↔ ¬ rhoN n ps (ups ps.length) (dropG T g ++ [c]) = rhoN n ps (ups ps.length) (dropG T g) := by
  obtain ⟨⟨n1, n9⟩, hb, h8⟩ := id ok
  have hd : Ks ps.length (dropG T g) := fun k hk => hT k (mem_dropG.mp hk).1
  have s := c_snoc n1 hb hd c0 cl
  rw [rho_top ok (ks_app hd fun k hk => by rw [List.mem_singleton.mp hk]; exact ⟨c0, cl⟩), rho_top ok hd, s]
  unfold acB apart
  by_cases h : at0 (hdF ps (ups n) (dropG T g)) (tieN ps c).1 = at0 (hdF ps (ups n) (dropG T g)) (tieN ps c).2
  · rw [decide_eq_true h, if_pos h]
    exact ⟨fun z => (nomatch z), fun z => absurd (by lia) z⟩
  · rw [decide_eq_false h, if_neg h]
    exact ⟨fun _ => by lia, fun _ => rfl⟩
theorem leaf_inn (ok : WebOk n ps) {ord : List Int} {x : Lf} (pm : ord.Perm (ups ps.length)) (L : LfOk n ps (ups ps.length) x) (A : Act (rhoN n ps (ups ps.length)) (ups ps.length) ord x) : innP n ps x.1 ord = x.2.1 /\ outP n ps x.1 ord = x.2.2 := by
  have hT : Ks ps.length x.1 := fun k hk => mem_ups.mp (L.m1 k hk)
  have ho : ∀ k c, c ∈ ord.take (ixOf ord k) -> 0 <= c /\ c < (ps.length : Int) := fun k c hc => mem_ups.mp (pm.subset (List.mem_of_mem_take hc))
  constructor
  · refine up_eq (L.u1.filter _) L.u2 fun k => ?_
    unfold innP
    rw [List.mem_filter, A.inn, Bool.not_eq_true', List.any_eq_false]
    refine and_congr_right fun hk => ?_
    unfold AI
    refine forall_congr' fun c => forall_congr' fun hc => ?_
    rw [decide_eq_true_iff, sw_in, ac_rho ok hT (ho k c hc).1 (ho k c hc).2]
    exact ⟨fun z => Classical.byContradiction fun y => z ⟨hk, ho k c hc, y⟩, fun z y => y.2.2 z⟩
  · refine up_eq (((ups_up _).filter _).filter _) L.u3 fun k => ?_
    unfold outP besP
    rw [List.mem_filter, List.mem_filter, A.out, Bool.not_eq_true', decide_eq_false_iff_not, Bool.not_eq_true', List.any_eq_false, and_assoc]
    refine and_congr_right fun hk => and_congr_right fun hn => ?_
    have kk := mem_ups.mp hk
    unfold AO
    refine forall_congr' fun g => forall_congr' fun hg => ?_
    rw [decide_eq_true_iff, sw_out, ac_rho ok hT kk.1 kk.2]
    exact ⟨fun z gT => Classical.byContradiction fun y => z ⟨gT, kk, y⟩, fun z y => y.2.2 (z y.1)⟩
end
theorem tup_leaf {H : Hp} {b : Addr} {l : List Int} (h : H b = some (.tup (l.map V.int))) : TupAt H (.ref b) l := ⟨b, rfl, h⟩
theorem same_tupA {K : W.Frag} {H : Hp} {v u : V} {l : List Int} (h1 : TupAt H v l) (h2 : TupAt H u l) : SameD K H 1 v u := by
  obtain ⟨a, rfl, ha⟩ := h1
  obtain ⟨b, rfl, hb⟩ := h2
  exact .tup (SqT.of ha) (SqT.of hb) rfl fun i y z f1 f2 => by
    rw [f1] at f2
    cases f2
    obtain ⟨k, _, rfl⟩ := get_int' f1
    exact .flat rfl
theorem same_tups {K : W.Frag} {H : Hp} {a b : Addr} {xs ys : List V} {L : List (List Int)} (ha : H a = some (.lst xs)) (hb : H b = some (.lst ys)) (p1 : Paired (TupAt H) xs L) (p2 : Paired (TupAt H) ys L) {Q : VK} {out : Bool} (q : Q (.bl out) H) : rSame K out (.ref a) (.ref b) H Q := by
  have l1 := Paired.length p1
  have l2 := Paired.length p2
  refine ⟨a, b, xs, ys, 1, rfl, rfl, .inr ⟨SqL.of ha, SqL.of hb⟩, by lia, by decide, fun j x y f1 f2 => ?_, q⟩
  obtain ⟨q1, g1, h1⟩ := Paired.at p1 f1
  obtain ⟨q2, g2, h2⟩ := Paired.at p2 f2
  rw [g1] at g2
  cases g2
  exact same_tupA h1 h2
theorem same_leaf {K : W.Frag} {H : Hp} {v u : V} {x : Lf} (h1 : LeafAt H v x) (h2 : LeafAt H u x) : SameD K H 2 v u := by
  obtain ⟨a, p, q, r, rfl, a0, a1, a2, a3⟩ := h1.ex
  obtain ⟨b, p', q', r', rfl, b0, b1, b2, b3⟩ := h2.ex
  refine .tup (SqT.of a0) (SqT.of b0) rfl fun i y z f1 f2 => ?_
  match i, f1, f2 with
  | 0, f1, f2 => cases f1; cases f2; exact same_tupA (tup_leaf a1) (tup_leaf b1)
  | 1, f1, f2 => cases f1; cases f2; exact same_tupA (tup_leaf a2) (tup_leaf b2)
  | 2, f1, f2 => cases f1; cases f2; exact same_tupA (tup_leaf a3) (tup_leaf b3)
  | i + 3, f1, f2 => exact absurd f1 (by simp)
theorem same_leaves {K : W.Frag} {H : Hp} {a b : Addr} {xs ys : List V} {M : List Lf} (ha : H a = some (.lst xs)) (hb : H b = some (.lst ys)) (p1 : Paired (LeafAt H) xs M) (p2 : Paired (LeafAt H) ys M) {Q : VK} {out : Bool} (q : Q (.bl out) H) : rSame K out (.ref a) (.ref b) H Q := by
  have l1 := Paired.length p1
  have l2 := Paired.length p2
  refine ⟨a, b, xs, ys, 2, rfl, rfl, .inr ⟨SqL.of ha, SqL.of hb⟩, by lia, by decide, fun j x y f1 f2 => ?_, q⟩
  obtain ⟨q1, g1, h1⟩ := Paired.at p1 f1
  obtain ⟨q2, g2, h2⟩ := Paired.at p2 f2
  rw [g1] at g2
  cases g2
  exact same_leaf h1 h2
theorem firsts_up : ∀ {M : List Lf}, (M.map toN).Pairwise NLe -> (M.map fun x => x.1).Nodup -> (M.map fun x => x.1).Pairwise LexLe
  | [], _, _ => .nil
  | x :: M, h, nd => by
    rw [List.map_cons] at h nd ⊢
    obtain ⟨h1, h2⟩ := List.pairwise_cons.mp h
    obtain ⟨n1, n2⟩ := List.nodup_cons.mp nd
    refine List.pairwise_cons.mpr ⟨fun a ha => ?_, firsts_up h2 n2⟩
    obtain ⟨y, hy, rfl⟩ := List.mem_map.mp ha
    have := h1 (toN y) (List.mem_map_of_mem hy)
    unfold NLe toN at this
    rw [nLt_cons, if_neg (fun z => n1 (by rw [<- z]; exact ha))] at this
    exact this
theorem lvs_trees {n : Int} {ps : List (Int × Int)} {ord : List Int} {M : List Lf} (ok : WebOk n ps) (okS : OkS ps.length n ps (ups ps.length) ord) (lv : LvIs (stpM ps.length n ps (ups ps.length) ord) M) (all : ∀ T ∈ treesP n ps, T ∈ (lvs (stpM ps.length n ps (ups ps.length) ord)).map fun x => x.1) (tu : (treesP n ps).Pairwise LexLe) (tn : (treesP n ps).Nodup) : (M.map fun x => x.1) = treesP n ps := by
  obtain ⟨h1, h2⟩ := lvs_ok _ _ _ _ _ okS
  obtain ⟨⟨n1, n9⟩, hb, h8⟩ := id ok
  have nd : (M.map fun x => x.1).Nodup := (lv.1.map fun x => x.1).nodup_iff.mpr h2
  have pm : (M.map fun x => x.1).Perm (treesP n ps) := (List.perm_ext_iff_of_nodup nd tn).mpr fun T => by
    constructor
    · intro hT
      obtain ⟨x, hx, rfl⟩ := List.mem_map.mp hT
      have L := h1 x (lv.1.subset hx)
      have ks : Ks ps.length x.1 := fun k hk => mem_ups.mp (L.m1 k hk)
      have r := L.rank
      rw [pos_ups L.u1 L.m1] at r
      have e := isTr_mem (n := n) h8 ks L.u1
      unfold isTr at e
      rw [decide_eq_true L.len, decide_eq_true r] at e
      exact of_decide_eq_true e.symm
    · intro hT
      exact (lv.1.map fun x => x.1).symm.subset (all T hT)
  exact lex_eq pm (firsts_up lv.2 nd) tu
theorem lvs_all : ∀ (d : Nat) (n : Int) (ps : List (Int × Int)) (nums ord : List Int), OkS d n ps nums ord -> ∀ T : List Int, T.Pairwise (· < ·) -> (∀ k ∈ T, k ∈ nums) -> (T.length : Int) = rkAll n ps -> rhoN n ps nums T = rkAll n ps -> T ∈ (lvs (stpM d n ps nums ord)).map fun x => x.1
  | 0, n, ps, nums, ord, S, T, up, hT, _, _ => by
    have en : nums = [] := List.length_eq_zero_iff.mp S.nl
    subst en
    have e : T = [] := List.eq_nil_iff_forall_not_mem.mpr fun k hk => nomatch hT k hk
    rw [e]
    exact List.mem_cons_self
  | d + 1, n, ps, nums, ord, S, T, up, hT, hl, hr => by
    obtain ⟨jl, jat⟩ := S.at
    have okL := S.left
    have okD := S.draw
    have lt0 := S.lt
    have ok := S.ok
    have nd := S.nd
    have e : nums.length = ps.length := by rw [S.nl, S.len]
    unfold stpM
    generalize ord.dropLast = ah at okL okD
    generalize ord.getLastD 0 = tie at jl jat okL okD lt0
    generalize nums.idxOf tie = j at jl jat okL okD lt0
    have nt := wo_no nd jat
    have pn : ∀ k, k ∈ nums ↔ k = tie \/ k ∈ wo nums j := fun k => by rw [(wo_perm jat).mem_iff, List.mem_cons]
    have R := rho_ok ok nd e
    have e' : (wo nums j).length = (wo ps j).length := by
      have a := wo_len1 (qs := nums) (j := j) (by lia)
      have b := wo_len1 jl
      lia
    have del : ∀ X, tie ∉ X -> rhoN n (wo ps j) (wo nums j) X = rhoN n ps nums X := fun X hX => by
      unfold rhoN
      rw [pos_dn (by lia)]
      exact rk_del ok.2.2 jl (pos_all ok.2.2 e) fun z => absurd (mem_pos.mp z).2 (by rw [at_get jat]; exact hX)
    have woR : rhoN n ps nums (wo nums j) = rkP n ps (oth ps.length j) := by
      rw [<- del _ nt, rho_self e', all_oth ok.2.2 jl]
    have le : rkP n ps (oth ps.length j) <= rkAll n ps := rk_le ok (oth_all ok.2.2 (j : Int))
    have inW : tie ∉ T -> ∀ k ∈ T, k ∈ wo nums j := fun z k hk => ((pn k).mp (hT k hk)).resolve_left fun y => z (y ▸ hk)
    have outT : tie ∉ T -> rkAll n (wo ps j) = rkAll n ps -> T ∈ (lvs (stpM d n (wo ps j) (wo nums j) ah)).map fun x => x.1 := fun z ea => lvs_all d n _ _ ah okL T up (inW z) (by rw [ea]; exact hl) (by rw [del T z, ea]; exact hr)
    by_cases hc : (tieN ps j).1 = (tieN ps j).2
    · rw [if_pos hc]
      have loop : rhoN n ps nums (dropG T tie ++ [tie]) = rhoN n ps nums (dropG T tie) := by
        have a : ∀ Y, rhoN n ps nums Y = rhoN n (wo ps j) (wo nums j) Y := fun Y => by
          unfold rhoN
          rw [pos_dn (by lia)]
          exact (rk_del ok.2.2 jl (pos_all ok.2.2 e) fun _ => hc).symm
        rw [a, a]
        unfold rhoN
        rw [pos_congr (A := dropG T tie ++ [tie]) (B := dropG T tie) fun k hk => by
          rw [List.mem_append, List.mem_singleton]
          exact ⟨fun z => z.resolve_right fun y => nt (y ▸ hk), .inl⟩]
      have z : tie ∉ T := fun z => by
        have s : rhoN n ps nums (dropG T tie ++ [tie]) = rhoN n ps nums T := R.same fun k => by
          rw [List.mem_append, List.mem_singleton, mem_dropG]
          exact ⟨fun y => y.elim (fun y => y.1) fun y => y ▸ z, fun y => by
            by_cases c : k = tie
            · exact .inr c
            · exact .inl ⟨y, c⟩⟩
        have g := R.le_len (dropG T tie)
        have lt : (dropG T tie).length < T.length := by
          unfold dropG
          exact List.length_filter_lt_length_iff_exists.mpr ⟨tie, z, by simp⟩
        lia
      obtain ⟨y, hy, ey⟩ := List.mem_map.mp (outT z (all_curl ok.2.2 jl hc))
      exact List.mem_map.mpr ⟨lC tie y, List.mem_map_of_mem hy, ey⟩
    rw [if_neg hc]
    have lt := lt0 hc
    have okD := okD hc
    have con : ∀ X, rhoN n ps nums (X ++ [tie]) = rhoN (n - 1) (drawnP ps j (tieN ps j)) (wo nums j) X + 1 := fun X => by
      unfold rhoN
      have r := rk_draw ok jl rfl lt (pos_all (A := X ++ [tie]) ok.2.2 e) (mem_pos.mpr ⟨⟨by lia, by lia⟩, by rw [at_get jat]; exact List.mem_append_right _ List.mem_cons_self⟩)
      rw [r, <- pos_dn (by lia), pos_congr (A := X ++ [tie]) (B := X) fun k hk => by
          rw [List.mem_append, List.mem_singleton]
          exact ⟨fun z => z.resolve_right fun y => nt (y ▸ hk), .inl⟩]
    have ea := all_draw ok jl rfl lt
    have inT : tie ∈ T -> ∃ y ∈ lvs (stpM d (n - 1) (drawnP ps j (tieN ps j)) (wo nums j) ah), insI tie y.1 = T := fun z => by
      have s : rhoN n ps nums (dropG T tie ++ [tie]) = rhoN n ps nums T := R.same fun k => by
        rw [List.mem_append, List.mem_singleton, mem_dropG]
        exact ⟨fun y => y.elim (fun y => y.1) fun y => y ▸ z, fun y => by
          by_cases c : k = tie
          · exact .inr c
          · exact .inl ⟨y, c⟩⟩
      have u' : (dropG T tie).Pairwise (· < ·) := up.filter _
      have ni : tie ∉ dropG T tie := fun q => (mem_dropG.mp q).2 rfl
      have back : insI tie (dropG T tie) = T := up_eq (insI_rise u' ni) up fun k => by
        rw [insI_mem, mem_dropG]
        exact ⟨fun y => y.elim (fun y => y ▸ z) fun y => y.1, fun y => by
          by_cases c : k = tie
          · exact .inl c
          · exact .inr ⟨y, c⟩⟩
      have ll := insI_len tie (dropG T tie)
      rw [back] at ll
      have c := con (dropG T tie)
      obtain ⟨y, hy, ey⟩ := List.mem_map.mp (lvs_all d (n - 1) _ _ ah okD (dropG T tie) u' (fun k hk => ((pn k).mp (hT k (mem_dropG.mp hk).1)).resolve_left (mem_dropG.mp hk).2) (by lia) (by lia))
      exact ⟨y, hy, by rw [ey, back]⟩
    by_cases hbr : rkP n ps (oth ps.length j) < rkAll n ps
    · rw [if_pos hbr]
      have z : tie ∈ T := Classical.byContradiction fun z => by
        have := R.incl (inW z)
        lia
      obtain ⟨y, hy, ey⟩ := inT z
      exact List.mem_map.mpr ⟨lB tie y, List.mem_map_of_mem hy, ey⟩
    · rw [if_neg hbr]
      show T ∈ (lvs _ ++ (lvs _).map (lF tie)).map fun x => x.1
      rw [List.map_append, List.mem_append]
      by_cases z : tie ∈ T
      · obtain ⟨y, hy, ey⟩ := inT z
        exact .inr (List.mem_map.mpr ⟨lF tie y, List.mem_map_of_mem hy, ey⟩)
      · exact .inl (outT z (by rw [all_oth ok.2.2 jl]; lia))
theorem trees_nd {n : Int} {ps : List (Int × Int)} (h8 : ps.length <= 8) : (treesP n ps).Nodup := by
  unfold treesP withP
  exact List.Pairwise.filter _ (List.Pairwise.filter _ (allP_nd h8))
theorem leaves_trees {n : Int} {ps : List (Int × Int)} {ord : List Int} {M : List Lf} (ok : WebOk n ps) (okS : OkS ps.length n ps (ups ps.length) ord) (lv : LvIs (stpM ps.length n ps (ups ps.length) ord) M) : (M.map fun x => x.1) = treesP n ps /\ M = (treesP n ps).map fun T => (T, innP n ps T ord, outP n ps T ord) := by
  obtain ⟨⟨n1, n9⟩, hb, h8⟩ := id ok
  have e1 := lvs_trees ok okS lv (fun T hT => by
    obtain ⟨ks, up⟩ := (allP_rise h8).mp (trees_all hT)
    have tr := isTr_mem (n := n) h8 ks up
    rw [decide_eq_true hT] at tr
    unfold isTr at tr
    rw [Bool.and_eq_true, decide_eq_true_iff, decide_eq_true_iff] at tr
    have hm : ∀ k ∈ T, k ∈ ups (ps.length : Int) := fun k hk => mem_ups.mpr (ks k hk)
    exact lvs_all _ _ _ _ _ okS T up hm tr.1 (by unfold rhoN; rw [pos_ups up hm]; exact tr.2)) (trees_up n1 n9 hb h8) (trees_nd h8)
  refine ⟨e1, ?_⟩
  rw [<- e1, List.map_map]
  refine Eq.symm (Eq.trans (List.map_congr_left (g := id) fun x hx => ?_) (List.map_id _))
  have hx' := lv.1.subset hx
  have L := (lvs_ok _ _ _ _ _ okS).1 x hx'
  have A := lvs_act _ _ _ _ _ okS x hx'
  obtain ⟨a, b⟩ := leaf_inn ok okS.pm L A
  show (x.1, innP n ps x.1 ord, outP n ps x.1 ord) = x
  rw [a, b]
def spLaw (K : W.Frag) : Sp := fun vs H Q _ => ∃ (a : Addr) (ns : List Int), vs = [.ref a] /\ SqL K H a (ns.map V.int) /\ ns.length <= 63 /\ ∀ H', Q (.bl true) H'
section
variable {P : Program} {w : World} {K : W.Frag} {mg : Str -> Option Value} {base : Heap} {CE CC CB CF : Addr}
seal PSs PS PE PI PA PT PG
theorem scLaw : FnScope ["_law_script", "_law_web_here", "_law_order_here", "_law_step", "_law_leaves", "_law_trees_here", "_law_due"] ["_law_script"] (defScope sLaw) := ⟨rfl, rfl, rfl, by decide +kernel, rfl, by decide +kernel, by decide +kernel⟩
theorem ndLf : (["_law_leaf"] : List Str).Nodup := by decide +kernel
theorem ndTWO : (["_law_tree", "_law_web_here", "_law_order_here"] : List Str).Nodup := by decide +kernel
theorem ok_law {f : Addr} {fd : FuncData} (F : Fun K "law" "law" sLaw f fd) (T : Txt K mg) (T4 : StK K mg CE CC CB CF) (OL : LvOk P w K mg base CE CC CB CF 8) (OM : MyOk P w K mg base CE CC CB CF 8) (DA : Def P w K mg base 1 "_law_at" ["_law_script", "_law_k"] (spAt K)) (DB : Def P w K mg base 2 "_law_web" ["_law_script", "_law_few"] (spWeb5 K)) (DO : Def P w K mg base 2 "_law_order" ["_law_script", "_law_many"] (spOrder K)) (DS : DefD P w K mg base 15 "steps_of" ["web", "order"] (spStepsO K CE CC CB CF)) (DT : Def P w K mg base 2 "_law_trees" ["_law_web_here"] (spLTrees K)) (DP : Def P w K mg base 4 "all_trees" ["web"] (spAT K)) (DI : DefD P w K mg base 4 "inner_ties" ["web", "tree", "order"] (spTies K innP)) (DU : DefD P w K mg base 4 "outer_ties" ["web", "tree", "order"] (spTies K outP)) : FnOk P w K mg base CX0 16 f fd ["_law_script"] (spLaw K) := by
  refine F.ok scLaw (fun vs H Q E h => ?_) (fun cdv A outer s H vs Q E hr h => ?_)
  · obtain ⟨a, ns, rfl, _⟩ := h; rfl
  · obtain ⟨a, ns, rfl, hq, hlen, q⟩ := h
    have hr1 : Room 1 _ := hr.mono (by decide)
    have hr2 : Room 2 _ := hr.mono (by decide)
    have hr4 : Room 4 _ := hr.mono (by decide)
    have hr11 : Room (3 + 8) _ := hr.mono (by decide)
    refine ⟨_, pss_cons (ps_set (i := 1) scLaw.nd rfl (Or.inr rfl) (pe_def DB hr2 rfl (pa_cons (pv 0) (pa_cons pe_int pa_nil))))
      (pss_cons (ps_set (i := 2) scLaw.nd rfl (Or.inr rfl) (pe_def DO hr2 rfl (pa_cons (pv 0) (pa_cons (pe_callB (call_lenK K) (by rfl) T.len PySem.boot_len (pa_cons (pe_ix (ix_tupK K) (pv 1) pe_int (fun _ _ => rfl)) pa_nil)) pa_nil))))
      (pss_cons (ps_set (i := 3) scLaw.nd rfl (Or.inl rfl) (pe_defD DS hr rfl (pa_cons (pv 1) (pa_cons (pe_callTy (call_list_ofK K) rfl T.list boot_list' (pa_cons (pv 2) pa_nil)) pa_nil))))
      (pss_cons (ps_if (pt_cmpR op_eq (pe_op op_mod (pe_op op_fdiv (pe_def DA hr1 rfl (pa_cons (pv 0) (pa_cons pe_int pa_nil))) pe_int) pe_int) pe_int (nomark _)) (pss_cons (ps_set (i := 2) scLaw.nd rfl (Or.inr rfl) pe_non) (pss_one (ps_set (i := 3) scLaw.nd rfl (Or.inl rfl) (pe_defD1 DS hr rfl (pa_cons (pv 1) pa_nil))))) pss_nil)
      (pss_cons (ps_set (i := 4) scLaw.nd rfl (Or.inl rfl) (pe_methA (pv 3)))
      (pss_cons (ps_set (i := 5) scLaw.nd rfl (Or.inl rfl) (pe_def DT hr2 rfl (pa_cons (pv 1) pa_nil)))
      (pss_cons (ps_if (PW.pt (pw_or (pt_not (pt_val (pe_callB (call_isiK K) (by rfl) T.isi boot_isi (pa_cons (pv 4) (pa_cons (pe_bltn (v := .ty "list") rfl T.list boot_list' rfl) pa_nil))))) (pw_or (pt_cmpR (op_neSK K (units66 hr)) (pe_def DP hr4 rfl (pa_cons (pv 1) pa_nil)) (pv 5) (nomark _)) (pw_or1 (pt_cmpR (op_neSK K (units66 hr)) (pe_comp (N' := ["_law_leaf"]) (fr := [none]) (compOk_of (by rfl)) rfl (pi_seqK K .l (pv 4)) (fun _ _ _ _ => pg_name (i := 0) ndLf rfl (Or.inl rfl) (Or.inr rfl)) (fun _ _ _ _ => pifs_nil) (fun _ _ _ _ => pe_ix (r := rIxT K) (ix_tupK K) (pv 0) pe_int (fun _ _ => rfl))) (pv 5) (nomark _)))))) (pss_one (ps_ret pe_bl)) pss_nil)
      (pss_cons (ps_setComp (i := 6) scLaw.nd rfl (Or.inl rfl) (N' := ["_law_tree", "_law_web_here", "_law_order_here"]) (fr := [none, some 1, some 2]) (compOk_of (by rfl)) rfl (pi_seqK K .l (pv 5)) (fun _ _ _ _ => pg_name (i := 0) ndTWO rfl (Or.inl rfl) (Or.inr rfl)) (fun _ _ _ _ => pifs_nil)
        (fun _ _ _ _ => pe_tup (pa_cons (pv 0) (pa_cons (pe_defD DI hr4 rfl (pa_cons (pv 1) (pa_cons (pv 0) (pa_cons (pv 2) pa_nil)))) (pa_cons (pe_defD DU hr4 rfl (pa_cons (pv 1) (pa_cons (pv 0) (pa_cons (pv 2) pa_nil)))) pa_nil)))))
      (pss_one (ps_ret (pe_and (pe_cmpR (op_eqSK K (units66 hr)) (pv 4) (pv 6) (nomark _)) (pe_one (pe_cmpR op_eq (pe_methA (pv 3)) (pe_callB (call_lenK K) (by rfl) T.len PySem.boot_len (pa_cons (pv 6) pa_nil)) (nomark _))))))))))))), ?_⟩
    refine seq_abs fun M hM => ?_
    refine ⟨_, rfl, a, ns, rfl, hq, fun wv n ps H1 s1 W ok nm => hM _ _ ?_⟩
    clear hM M
    obtain ⟨⟨n1, n9⟩, hb, h8⟩ := id ok
    obtain ⟨c, d, xs, rfl, hc, hd, ht⟩ := id W.ex
    have xl : xs.length = ps.length := Paired.length ht
    have i1 : atI ([.int n, .ref d] : List V) 1 = some (.ref d) := atI_nat (j := 1) rfl
    try dsimp only [List.set]
    refine seq_abs fun M hM => ?_
    refine ⟨_, rfl, _, rfl, c, _, _, _, rfl, rfl, SqT.of hc, i1, d, xs, rfl, .inr (SqT.of hd), ?_⟩
    rw [xl]
    refine ⟨a, ns, ps.length, rfl, s1.seq hq, h8, fun l2 ord H2 s2 hl2 pm => hM _ _ ?_⟩
    clear hM M
    have W2 := W.same s2
    have s12 := s1.trans s2
    clear W hc hd ht s2 s1
    try dsimp only [List.set]
    refine seq_abs fun M hM => ?_
    have ul : (ups (ps.length : Int)).length = ps.length := by rw [ups_len]; lia
    refine ⟨_, rfl, _, rfl, l2, _, rfl, .inl (SqL.of hl2), fun l3 hl3 => ?_⟩
    have s3 := Same.new (o := HO.lst (ord.map V.int)) hl3
    refine ⟨.l, .ref c, .ref l3, n, ps, ord, rfl, W2.same s3, ok, nm, .inr ⟨l3, rfl, upd_same, pm⟩, fun v H4 s4 st => hM _ _ ?_⟩
    clear hM M
    have s24 := s3.trans s4
    have W4 := W2.same s24
    have l4 := s24 _ _ hl2
    have sq4 := s12.trans s24
    clear s3 s4 s24 W2 hl2 hl3
    try dsimp only [List.set]
    refine seq_abs fun M hM => ?_
    have go : ∀ (kd : Kd) (ov v : V) (od : List Int) (H5 : Hp), WebAt H5 (.ref c) n ps -> OrdAt kd H5 ov ps.length od -> StepAt CE CC CB CF H5 (stpM ps.length n ps (ups ps.length) od) v -> M [some (.ref a), some (.ref c), some ov, some v, none, none, none] H5 := fun kd ov v od H5 W5 oa st => hM _ _ (by
      clear hM M
      have okS : OkS ps.length n ps (ups ps.length) od := ⟨ok, nm, rfl, ul, (ups_up _).imp fun h => by lia, oa.perm⟩
      have dp := stp_deep ps.length n ps (ups ps.length) od
      have LT := fun M lv => leaves_trees (M := M) ok okS lv
      generalize stpM ps.length n ps (ups ps.length) od = S at st dp LT
      have dp8 : S.deep <= 8 := by lia
      refine seq_abs fun M hM => ?_
      refine ⟨_, rfl, ?_⟩
      refine meth_lv T4 OL hr11 st dp8 (by decide) fun l6 xs6 N H6 s6 f6 hl6 hx6 lv => hM _ _ ?_
      clear hM M
      obtain ⟨e1, e2⟩ := LT N lv
      have n256 := lvs256 lv dp8
      have x6 : xs6.length = N.length := Paired.length hx6
      have tl : (treesP n ps).length = N.length := by rw [<- e1, List.length_map]
      have W6 := W5.same s6
      try dsimp only [List.set]
      refine seq_abs fun M hM => ?_
      refine ⟨_, rfl, .ref c, n, ps, rfl, W6, ok, fun l7 xs7 H7 s7 hl7 hx7 => hM _ _ ?_⟩
      clear hM M
      have hl6 := s7 _ _ hl6
      have hx6 := leafs_same hx6 s7
      have W7 := W6.same s7
      have s57 := s6.trans s7
      try dsimp only [List.set]
      refine seq_abs fun M hM => ?_
      refine ⟨_, rfl, _, _, _, _, _, rfl, rfl, .lst hl6, kp_lst K, _, rfl, iteF ?_⟩
      refine ⟨_, rfl, .ref c, n, ps, rfl, W7, ok, fun l8 xs8 H8 s8 f8 hl8 hx8 => ?_⟩
      refine ⟨_, rfl, same_tups hl8 (s8 _ _ hl7) hx8 (tups_same hx7 s8) ⟨_, rfl, iteF ?_⟩⟩
      have hl68 := s8 _ _ hl6
      have hx68 := leafs_same hx6 s8
      refine ⟨_, rfl, l6, rfl, ⟨_, SqL.of hl68⟩, comp_seq (k := .l) (K := K) (a := l6) (xs := xs6) (fun σ => ∃ u, σ = [u]) (fun i ys H' => H' = H8 /\ Paired (TupAt H8) ys ((N.take i).map fun x => x.1)) ⟨_, rfl⟩ ⟨rfl, .nil⟩ (natB (by lia)) (fun i ys H' _ z => by rw [z.1]; exact SqL.of hl68) ?_ ?_⟩
      · rintro i x ys σ H' Z hx ⟨u, rfl⟩ ⟨rfl, P2⟩ hZ
        obtain ⟨y, ey, hy⟩ := Paired.at hx68 hx
        obtain ⟨b, c1, c2, c3, rfl, hb0, h1, h2, h3⟩ := LeafAt.ex hy
        dsimp only [gName, List.set]
        refine yesT ⟨_, rfl, b, _, _, _, rfl, rfl, SqT.of hb0, atI_nat (j := 0) rfl, hZ _ _ _ ⟨_, rfl⟩ ⟨rfl, ?_⟩ (by simp)⟩
        rw [take_succ_of ey, List.map_append]
        exact L2.Paired.snoc P2 (tup_leaf h1)
      rintro ys H' ⟨rfl, P2⟩ l9 hl9
      rw [x6, List.take_length, e1] at P2
      have s9 := Same.new (o := HO.lst ys) hl9
      have h9 : (upd H' l9 (.lst ys)) l9 = some (.lst ys) := upd_same
      have P9 := tups_same P2 s9
      have s79 := s8.trans s9
      generalize upd H' l9 (.lst ys) = H9 at h9 P9 s79 ⊢
      refine ⟨_, rfl, same_tups h9 (s79 _ _ hl7) P9 (tups_same hx7 s79) ⟨_, rfl, iteF (hM _ _ ?_)⟩⟩
      clear hM M
      have hl7' := s79 _ _ hl7
      have hx7' := tups_same hx7 s79
      have x7 : xs7.length = (treesP n ps).length := Paired.length hx7
      have W9 := W7.same s79
      have oa9 := oa.same (s57.trans s79)
      have st9 := st.same (s57.trans s79)
      have hl69 := s79 _ _ hl6
      have hx69 := leafs_same hx6 s79
      refine seq_abs fun M hM => ?_
      refine ⟨_, rfl, l7, rfl, ⟨_, SqL.of hl7'⟩, comp_seq (k := .l) (K := K) (a := l7) (xs := xs7) (fun σ => ∃ u, σ = [u, some (.ref c), some ov]) (fun i ys H' => Same H9 H' /\ Paired (LeafAt H') ys (((treesP n ps).take i).map fun T => (T, innP n ps T od, outP n ps T od))) ⟨_, rfl⟩ ⟨Same.refl _, .nil⟩ (natB (by lia)) (fun i ys H' _ z => SqL.of (z.1 _ _ hl7')) ?_ ?_⟩
      · rintro i x ys σ H10 Z hx ⟨u, rfl⟩ ⟨sm, P2⟩ hZ
        obtain ⟨t, et, b, rfl, hb0⟩ := Paired.at hx7' hx
        obtain ⟨tk, tu⟩ := (allP_rise h8).mp (trees_all (List.mem_of_getElem? et))
        have t8 : t.length <= 8 := by
          have := nd_len (n := (ps.length : Int)) (by lia) (tu.imp fun h => by lia) tk
          lia
        dsimp only [gName, List.set]
        refine yesT ⟨_, rfl, _, rfl, _, rfl, _, rfl, kd, .ref c, ov, b, n, ps, t, od, rfl, W9.same sm, ok, SqT.of (sm _ _ hb0), tk, t8, oa9.same sm, fun g1 H11 s11 hg1 => ?_⟩
        have sm1 := sm.trans s11
        refine ⟨_, rfl, _, rfl, _, rfl, kd, .ref c, ov, b, n, ps, t, od, rfl, W9.same sm1, ok, SqT.of (sm1 _ _ hb0), tk, t8, oa9.same sm1, fun g2 H12 s12 hg2 => ?_⟩
        refine ⟨by show 3 <= sizeLine; decide, fun g3 hg3 => ?_⟩
        have s13 := Same.new (o := HO.tup [.ref b, .ref g1, .ref g2]) hg3
        have sm3 := sm1.trans (s12.trans s13)
        refine hZ _ _ _ ⟨_, rfl⟩ ⟨sm3, ?_⟩ (by simp)
        rw [take_succ_of et, List.map_append]
        exact L2.Paired.snoc (leafs_same P2 (s11.trans (s12.trans s13))) (LeafAt.mk upd_same (sm3 _ _ hb0) (s13 _ _ (s12 _ _ hg1)) (s13 _ _ hg2))
      rintro ys' H10 ⟨sm, P3⟩ l11 hl11
      rw [x7, List.take_length, <- e2] at P3
      have s11 := Same.new (o := HO.lst ys') hl11
      have h11 : (upd H10 l11 (.lst ys')) l11 = some (.lst ys') := upd_same
      have P11 := leafs_same P3 s11
      have s911 := sm.trans s11
      generalize upd H10 l11 (.lst ys') = H11 at h11 P11 s911 ⊢
      refine hM _ _ ?_
      clear hM M
      try dsimp only [List.set]
      refine ⟨_, rfl, _, rfl, same_leaves (s911 _ _ hl69) h11 (leafs_same hx69 s911) P11 ⟨_, rfl, iteT ?_⟩⟩
      refine ⟨_, rfl, ?_⟩
      refine meth_my T4 OM hr11 (st9.same s911) dp8 (by decide) fun H12 s12 => ?_
      have y' : ys'.length = N.length := Paired.length P11
      refine ⟨_, rfl, l11, _, rfl, .inl (SqL.of (s12 _ _ h11)), rfl, ?_⟩
      rw [y', lv.1.length_eq, decide_eq_true rfl]
      exact q _)
    refine ⟨_, rfl, a, ns, 0, rfl, sq4.seq hq, _, _, rfl, rfl, ⟨by decide, by decide⟩, _, _, rfl, rfl, (by show (0 : Int) < 4; decide), rfl, _, rfl, ?_⟩
    refine ite2 (fun _ => ?_) (fun _ => go .l (.ref l2) v ord H4 W4 (.inr ⟨l2, rfl, l4, pm⟩) st)
    try dsimp only [List.set]
    refine ⟨_, rfl, .l, .ref c, .non, n, ps, ups ps.length, rfl, W4, ok, nm, .inl ⟨rfl, rfl⟩, fun v2 H5 s5 st2 => ?_⟩
    try dsimp only [List.set]
    exact go .l .non v2 _ H5 (W4.same s5) (.inl ⟨rfl, rfl⟩) st2
end
theorem src_mk {K : W.Frag} {h : Heap} {mg : Str -> Option Value} {x : Str} {st : Stmt} {f : Addr} {ps : List Str} {oc : Value} {od an : Option Addr} {osl : Array (Option Value)} {kV doc pm cdv ct : Value} (X : K.In h) (G : h.Ns mainGlobals mg)
    (a : PySem.W.nsIn K mainGlobals x = some (some (.ref f))) (l : K.lookup f = some ⟨oc, od, .func (PySem.W.fnOf x x (defArgs st) (defBody st) (defScope st) .none kV doc pm an cdv ct), osl⟩) (c : PySem.W.codeIn K cdv x = true) (k : PySem.W.keepIn K (.ref f) = true)
    (hb : ∀ (kV doc pm : Value) (an : Option Addr) (cdv ct : Value) (us : List Value), us.length = ps.length -> bindArgs (PySem.W.fnOf x x (defArgs st) (defBody st) (defScope st) .none kV doc pm an cdv ct) ⟨us, []⟩ = pure (ps.zip us)) : Src K mg x st ps :=
  ⟨_, _, fun_mk (st := st) l c k, (fun_mk (st := st) l c k).binds hb, PySem.W.mg_of X G a⟩
theorem lenC {p : List Value -> Prop} {n : Nat} (h : ∀ (a : Value) (us : List Value), us.length = n -> p (a :: us)) : ∀ us : List Value, us.length = n + 1 -> p us := fun us hl => by
  cases us with
  | nil => cases hl
  | cons a us => exact h a us (Nat.succ.inj hl)
theorem len0 {p : List Value -> Prop} (h : p []) : ∀ us : List Value, us.length = 0 -> p us := fun us hl => by
  rw [List.length_eq_zero_iff.mp hl]
  exact h
theorem len1 {p : List Value -> Prop} (h : ∀ a, p [a]) : ∀ us : List Value, us.length = 1 -> p us := lenC fun a => len0 (p := fun us => p (a :: us)) (h a)
theorem len2 {p : List Value -> Prop} (h : ∀ a b, p [a, b]) : ∀ us : List Value, us.length = 2 -> p us := lenC fun a => len1 (p := fun us => p (a :: us)) (h a)
theorem len3 {p : List Value -> Prop} (h : ∀ a b c, p [a, b, c]) : ∀ us : List Value, us.length = 3 -> p us := lenC fun a => len2 (p := fun us => p (a :: us)) (h a)
theorem len4 {p : List Value -> Prop} (h : ∀ a b c d, p [a, b, c, d]) : ∀ us : List Value, us.length = 4 -> p us := lenC fun a => len3 (p := fun us => p (a :: us)) (h a)
theorem lenS1 {p : List Value -> Prop} (h : ∀ a, p [a]) : ∀ us : List Value, us.length + 1 = 2 -> p us := fun us hl => len1 h us (Nat.succ.inj hl)
theorem lenS2 {p : List Value -> Prop} (h : ∀ a b, p [a, b]) : ∀ us : List Value, us.length + 1 = 3 -> p us := fun us hl => len2 h us (Nat.succ.inj hl)
theorem srcD_mk {K : W.Frag} {h : Heap} {mg : Str -> Option Value} {x : Str} {st : Stmt} {f T : Addr} {ps : List Str} {oc tc : Value} {od an td : Option Addr} {osl ts : Array (Option Value)} {kV doc pm cdv ct : Value} {tn : Nat} (X : K.In h) (G : h.Ns mainGlobals mg)
    (a : PySem.W.nsIn K mainGlobals x = some (some (.ref f))) (l : K.lookup f = some ⟨oc, od, .func (PySem.W.fnOf x x (defArgs st) (defBody st) (defScope st) (.ref T) kV doc pm an cdv ct), osl⟩) (c : PySem.W.codeIn K cdv x = true) (k : PySem.W.keepIn K (.ref f) = true) (t : K.lookup T = some ⟨tc, td, .seq #[.none] tn, ts⟩)
    (b0 : ∀ us : List Value, us.length = ps.length -> ∃ k : Option (Array Value) -> Sem (List (Str × Value)), bindArgs (PySem.W.fnOf x x (defArgs st) (defBody st) (defScope st) (.ref T) kV doc pm an cdv ct) ⟨us, []⟩ = seqItems? (.ref T) >>= k /\ k (some #[.none]) = pure (ps.zip us))
    (b1 : ∀ us : List Value, us.length + 1 = ps.length -> ∃ k : Option (Array Value) -> Sem (List (Str × Value)), bindArgs (PySem.W.fnOf x x (defArgs st) (defBody st) (defScope st) (.ref T) kV doc pm an cdv ct) ⟨us, []⟩ = seqItems? (.ref T) >>= k /\ k (some #[.none]) = pure (ps.zip (us ++ [.none]))) : SrcD K mg x st ps :=
  ⟨f, T, oc, od, kV, doc, pm, an, cdv, ct, osl, _, tn, l, c, k, PySem.W.mg_of X G a, t, rfl, b0, b1⟩
theorem all_mk {l : PySem.W.OpenLaw} {w : World} {K : W.Frag} {h : Heap} {mg : Str -> Option Value} {fa : Addr} (X : K.In h) (G : h.Ns mainGlobals mg) (hfa : mg "law" = some (.ref fa))
    {f0 : Addr} {od0 an0 : Option Addr} {sl0 : Array (Option Value)} {oc0 kV0 dc0 pm0 cd0 ct0 : Value}
    (a0 : PySem.W.nsIn K mainGlobals "is_whole" = some (some (.ref f0))) (l0 : K.lookup f0 = some ⟨oc0, od0, .func (PySem.W.fnOf "is_whole" "is_whole" (defArgs sIsWhole) (defBody sIsWhole) (defScope sIsWhole) .none kV0 dc0 pm0 an0 cd0 ct0), sl0⟩) (c0 : PySem.W.codeIn K cd0 "is_whole" = true) (k0 : PySem.W.keepIn K (.ref f0) = true)
    {f1 : Addr} {od1 an1 : Option Addr} {sl1 : Array (Option Value)} {oc1 kV1 dc1 pm1 cd1 ct1 : Value}
    (a1 : PySem.W.nsIn K mainGlobals "is_whole_within" = some (some (.ref f1))) (l1 : K.lookup f1 = some ⟨oc1, od1, .func (PySem.W.fnOf "is_whole_within" "is_whole_within" (defArgs sWithin) (defBody sWithin) (defScope sWithin) .none kV1 dc1 pm1 an1 cd1 ct1), sl1⟩) (c1 : PySem.W.codeIn K cd1 "is_whole_within" = true) (k1 : PySem.W.keepIn K (.ref f1) = true)
    {f2 : Addr} {od2 an2 : Option Addr} {sl2 : Array (Option Value)} {oc2 kV2 dc2 pm2 cd2 ct2 : Value}
    (a2 : PySem.W.nsIn K mainGlobals "is_each_once" = some (some (.ref f2))) (l2 : K.lookup f2 = some ⟨oc2, od2, .func (PySem.W.fnOf "is_each_once" "is_each_once" (defArgs sOnce) (defBody sOnce) (defScope sOnce) .none kV2 dc2 pm2 an2 cd2 ct2), sl2⟩) (c2 : PySem.W.codeIn K cd2 "is_each_once" = true) (k2 : PySem.W.keepIn K (.ref f2) = true)
    {f3 : Addr} {od3 an3 : Option Addr} {sl3 : Array (Option Value)} {oc3 kV3 dc3 pm3 cd3 ct3 : Value}
    (a3 : PySem.W.nsIn K mainGlobals "lesser_first" = some (some (.ref f3))) (l3 : K.lookup f3 = some ⟨oc3, od3, .func (PySem.W.fnOf "lesser_first" "lesser_first" (defArgs sLesser) (defBody sLesser) (defScope sLesser) .none kV3 dc3 pm3 an3 cd3 ct3), sl3⟩) (c3 : PySem.W.codeIn K cd3 "lesser_first" = true) (k3 : PySem.W.keepIn K (.ref f3) = true)
    {f4 : Addr} {od4 an4 : Option Addr} {sl4 : Array (Option Value)} {oc4 kV4 dc4 pm4 cd4 ct4 : Value}
    (a4 : PySem.W.nsIn K mainGlobals "refuse_no_tie_of" = some (some (.ref f4))) (l4 : K.lookup f4 = some ⟨oc4, od4, .func (PySem.W.fnOf "refuse_no_tie_of" "refuse_no_tie_of" (defArgs sNoTie) (defBody sNoTie) (defScope sNoTie) .none kV4 dc4 pm4 an4 cd4 ct4), sl4⟩) (c4 : PySem.W.codeIn K cd4 "refuse_no_tie_of" = true) (k4 : PySem.W.keepIn K (.ref f4) = true)
    {f5 : Addr} {od5 an5 : Option Addr} {sl5 : Array (Option Value)} {oc5 kV5 dc5 pm5 cd5 ct5 : Value}
    (a5 : PySem.W.nsIn K mainGlobals "whole_pick" = some (some (.ref f5))) (l5 : K.lookup f5 = some ⟨oc5, od5, .func (PySem.W.fnOf "whole_pick" "whole_pick" (defArgs sWhole) (defBody sWhole) (defScope sWhole) .none kV5 dc5 pm5 an5 cd5 ct5), sl5⟩) (c5 : PySem.W.codeIn K cd5 "whole_pick" = true) (k5 : PySem.W.keepIn K (.ref f5) = true)
    {f6 : Addr} {od6 an6 : Option Addr} {sl6 : Array (Option Value)} {oc6 kV6 dc6 pm6 cd6 ct6 : Value}
    (a6 : PySem.W.nsIn K mainGlobals "told_order" = some (some (.ref f6))) (l6 : K.lookup f6 = some ⟨oc6, od6, .func (PySem.W.fnOf "told_order" "told_order" (defArgs sTold) (defBody sTold) (defScope sTold) .none kV6 dc6 pm6 an6 cd6 ct6), sl6⟩) (c6 : PySem.W.codeIn K cd6 "told_order" = true) (k6 : PySem.W.keepIn K (.ref f6) = true)
    {f7 : Addr} {od7 an7 : Option Addr} {sl7 : Array (Option Value)} {oc7 kV7 dc7 pm7 cd7 ct7 : Value}
    (a7 : PySem.W.nsIn K mainGlobals "with_one_more" = some (some (.ref f7))) (l7 : K.lookup f7 = some ⟨oc7, od7, .func (PySem.W.fnOf "with_one_more" "with_one_more" (defArgs sMore) (defBody sMore) (defScope sMore) .none kV7 dc7 pm7 an7 cd7 ct7), sl7⟩) (c7 : PySem.W.codeIn K cd7 "with_one_more" = true) (k7 : PySem.W.keepIn K (.ref f7) = true)
    {f8 : Addr} {od8 an8 : Option Addr} {sl8 : Array (Option Value)} {oc8 kV8 dc8 pm8 cd8 ct8 : Value}
    (a8 : PySem.W.nsIn K mainGlobals "all_picks" = some (some (.ref f8))) (l8 : K.lookup f8 = some ⟨oc8, od8, .func (PySem.W.fnOf "all_picks" "all_picks" (defArgs sAll) (defBody sAll) (defScope sAll) .none kV8 dc8 pm8 an8 cd8 ct8), sl8⟩) (c8 : PySem.W.codeIn K cd8 "all_picks" = true) (k8 : PySem.W.keepIn K (.ref f8) = true)
    {f9 : Addr} {od9 an9 : Option Addr} {sl9 : Array (Option Value)} {oc9 kV9 dc9 pm9 cd9 ct9 : Value}
    (a9 : PySem.W.nsIn K mainGlobals "heads_of" = some (some (.ref f9))) (l9 : K.lookup f9 = some ⟨oc9, od9, .func (PySem.W.fnOf "heads_of" "heads_of" (defArgs sHeads) (defBody sHeads) (defScope sHeads) .none kV9 dc9 pm9 an9 cd9 ct9), sl9⟩) (c9 : PySem.W.codeIn K cd9 "heads_of" = true) (k9 : PySem.W.keepIn K (.ref f9) = true)
    {f10 : Addr} {od10 an10 : Option Addr} {sl10 : Array (Option Value)} {oc10 kV10 dc10 pm10 cd10 ct10 : Value}
    (a10 : PySem.W.nsIn K mainGlobals "rank_of" = some (some (.ref f10))) (l10 : K.lookup f10 = some ⟨oc10, od10, .func (PySem.W.fnOf "rank_of" "rank_of" (defArgs sRank) (defBody sRank) (defScope sRank) .none kV10 dc10 pm10 an10 cd10 ct10), sl10⟩) (c10 : PySem.W.codeIn K cd10 "rank_of" = true) (k10 : PySem.W.keepIn K (.ref f10) = true)
    {f11 : Addr} {od11 an11 : Option Addr} {sl11 : Array (Option Value)} {oc11 kV11 dc11 pm11 cd11 ct11 : Value}
    (a11 : PySem.W.nsIn K mainGlobals "rank_of_web" = some (some (.ref f11))) (l11 : K.lookup f11 = some ⟨oc11, od11, .func (PySem.W.fnOf "rank_of_web" "rank_of_web" (defArgs sRankW) (defBody sRankW) (defScope sRankW) .none kV11 dc11 pm11 an11 cd11 ct11), sl11⟩) (c11 : PySem.W.codeIn K cd11 "rank_of_web" = true) (k11 : PySem.W.keepIn K (.ref f11) = true)
    {f12 : Addr} {od12 an12 : Option Addr} {sl12 : Array (Option Value)} {oc12 kV12 dc12 pm12 cd12 ct12 : Value}
    (a12 : PySem.W.nsIn K mainGlobals "kind_of" = some (some (.ref f12))) (l12 : K.lookup f12 = some ⟨oc12, od12, .func (PySem.W.fnOf "kind_of" "kind_of" (defArgs sKind) (defBody sKind) (defScope sKind) .none kV12 dc12 pm12 an12 cd12 ct12), sl12⟩) (c12 : PySem.W.codeIn K cd12 "kind_of" = true) (k12 : PySem.W.keepIn K (.ref f12) = true)
    {f13 : Addr} {od13 an13 : Option Addr} {sl13 : Array (Option Value)} {oc13 kV13 dc13 pm13 cd13 ct13 : Value}
    (a13 : PySem.W.nsIn K mainGlobals "left_out" = some (some (.ref f13))) (l13 : K.lookup f13 = some ⟨oc13, od13, .func (PySem.W.fnOf "left_out" "left_out" (defArgs sLeft) (defBody sLeft) (defScope sLeft) .none kV13 dc13 pm13 an13 cd13 ct13), sl13⟩) (c13 : PySem.W.codeIn K cd13 "left_out" = true) (k13 : PySem.W.keepIn K (.ref f13) = true)
    {f14 : Addr} {od14 an14 : Option Addr} {sl14 : Array (Option Value)} {oc14 kV14 dc14 pm14 cd14 ct14 : Value}
    (a14 : PySem.W.nsIn K mainGlobals "moved" = some (some (.ref f14))) (l14 : K.lookup f14 = some ⟨oc14, od14, .func (PySem.W.fnOf "moved" "moved" (defArgs sMoved) (defBody sMoved) (defScope sMoved) .none kV14 dc14 pm14 an14 cd14 ct14), sl14⟩) (c14 : PySem.W.codeIn K cd14 "moved" = true) (k14 : PySem.W.keepIn K (.ref f14) = true)
    {f15 : Addr} {od15 an15 : Option Addr} {sl15 : Array (Option Value)} {oc15 kV15 dc15 pm15 cd15 ct15 : Value}
    (a15 : PySem.W.nsIn K mainGlobals "drawn_together" = some (some (.ref f15))) (l15 : K.lookup f15 = some ⟨oc15, od15, .func (PySem.W.fnOf "drawn_together" "drawn_together" (defArgs sDrawn) (defBody sDrawn) (defScope sDrawn) .none kV15 dc15 pm15 an15 cd15 ct15), sl15⟩) (c15 : PySem.W.codeIn K cd15 "drawn_together" = true) (k15 : PySem.W.keepIn K (.ref f15) = true)
    {f16 : Addr} {od16 an16 : Option Addr} {sl16 : Array (Option Value)} {oc16 kV16 dc16 pm16 cd16 ct16 : Value}
    (a16 : PySem.W.nsIn K mainGlobals "picks_with" = some (some (.ref f16))) (l16 : K.lookup f16 = some ⟨oc16, od16, .func (PySem.W.fnOf "picks_with" "picks_with" (defArgs sPW) (defBody sPW) (defScope sPW) .none kV16 dc16 pm16 an16 cd16 ct16), sl16⟩) (c16 : PySem.W.codeIn K cd16 "picks_with" = true) (k16 : PySem.W.keepIn K (.ref f16) = true)
    {f17 : Addr} {od17 an17 : Option Addr} {sl17 : Array (Option Value)} {oc17 kV17 dc17 pm17 cd17 ct17 : Value}
    (a17 : PySem.W.nsIn K mainGlobals "all_trees" = some (some (.ref f17))) (l17 : K.lookup f17 = some ⟨oc17, od17, .func (PySem.W.fnOf "all_trees" "all_trees" (defArgs sAT) (defBody sAT) (defScope sAT) .none kV17 dc17 pm17 an17 cd17 ct17), sl17⟩) (c17 : PySem.W.codeIn K cd17 "all_trees" = true) (k17 : PySem.W.keepIn K (.ref f17) = true)
    {f18 : Addr} {od18 an18 : Option Addr} {sl18 : Array (Option Value)} {oc18 kV18 dc18 pm18 cd18 ct18 : Value}
    (a18 : PySem.W.nsIn K mainGlobals "leads_across" = some (some (.ref f18))) (l18 : K.lookup f18 = some ⟨oc18, od18, .func (PySem.W.fnOf "leads_across" "leads_across" (defArgs sAcross) (defBody sAcross) (defScope sAcross) .none kV18 dc18 pm18 an18 cd18 ct18), sl18⟩) (c18 : PySem.W.codeIn K cd18 "leads_across" = true) (k18 : PySem.W.keepIn K (.ref f18) = true)
    {f19 : Addr} {od19 an19 : Option Addr} {sl19 : Array (Option Value)} {oc19 kV19 dc19 pm19 cd19 ct19 : Value}
    (a19 : PySem.W.nsIn K mainGlobals "swaps_of" = some (some (.ref f19))) (l19 : K.lookup f19 = some ⟨oc19, od19, .func (PySem.W.fnOf "swaps_of" "swaps_of" (defArgs sSwaps) (defBody sSwaps) (defScope sSwaps) .none kV19 dc19 pm19 an19 cd19 ct19), sl19⟩) (c19 : PySem.W.codeIn K cd19 "swaps_of" = true) (k19 : PySem.W.keepIn K (.ref f19) = true)
    {f20 : Addr} {od20 an20 : Option Addr} {sl20 : Array (Option Value)} {oc20 kV20 dc20 pm20 cd20 ct20 : Value}
    (a20 : PySem.W.nsIn K mainGlobals "is_first" = some (some (.ref f20))) (l20 : K.lookup f20 = some ⟨oc20, od20, .func (PySem.W.fnOf "is_first" "is_first" (defArgs sFirst) (defBody sFirst) (defScope sFirst) .none kV20 dc20 pm20 an20 cd20 ct20), sl20⟩) (c20 : PySem.W.codeIn K cd20 "is_first" = true) (k20 : PySem.W.keepIn K (.ref f20) = true)
    {f21 : Addr} {od21 an21 : Option Addr} {sl21 : Array (Option Value)} {oc21 kV21 dc21 pm21 cd21 ct21 : Value}
    (a21 : PySem.W.nsIn K mainGlobals "is_inner" = some (some (.ref f21))) (l21 : K.lookup f21 = some ⟨oc21, od21, .func (PySem.W.fnOf "is_inner" "is_inner" (defArgs sIsIn) (defBody sIsIn) (defScope sIsIn) .none kV21 dc21 pm21 an21 cd21 ct21), sl21⟩) (c21 : PySem.W.codeIn K cd21 "is_inner" = true) (k21 : PySem.W.keepIn K (.ref f21) = true)
    {f22 : Addr} {od22 an22 : Option Addr} {sl22 : Array (Option Value)} {oc22 kV22 dc22 pm22 cd22 ct22 : Value}
    (a22 : PySem.W.nsIn K mainGlobals "is_outer" = some (some (.ref f22))) (l22 : K.lookup f22 = some ⟨oc22, od22, .func (PySem.W.fnOf "is_outer" "is_outer" (defArgs sIsOut) (defBody sIsOut) (defScope sIsOut) .none kV22 dc22 pm22 an22 cd22 ct22), sl22⟩) (c22 : PySem.W.codeIn K cd22 "is_outer" = true) (k22 : PySem.W.keepIn K (.ref f22) = true)
    {f23 : Addr} {od23 an23 : Option Addr} {sl23 : Array (Option Value)} {oc23 kV23 dc23 pm23 cd23 ct23 : Value} {T23 : Addr} {tc23 : Value} {td23 : Option Addr} {ts23 : Array (Option Value)} {tn23 : Nat}
    (a23 : PySem.W.nsIn K mainGlobals "inner_ties" = some (some (.ref f23))) (l23 : K.lookup f23 = some ⟨oc23, od23, .func (PySem.W.fnOf "inner_ties" "inner_ties" (defArgs sInner) (defBody sInner) (defScope sInner) (.ref T23) kV23 dc23 pm23 an23 cd23 ct23), sl23⟩) (c23 : PySem.W.codeIn K cd23 "inner_ties" = true) (k23 : PySem.W.keepIn K (.ref f23) = true) (t23 : K.lookup T23 = some ⟨tc23, td23, .seq #[.none] tn23, ts23⟩)
    {f24 : Addr} {od24 an24 : Option Addr} {sl24 : Array (Option Value)} {oc24 kV24 dc24 pm24 cd24 ct24 : Value} {T24 : Addr} {tc24 : Value} {td24 : Option Addr} {ts24 : Array (Option Value)} {tn24 : Nat}
    (a24 : PySem.W.nsIn K mainGlobals "outer_ties" = some (some (.ref f24))) (l24 : K.lookup f24 = some ⟨oc24, od24, .func (PySem.W.fnOf "outer_ties" "outer_ties" (defArgs sOuter) (defBody sOuter) (defScope sOuter) (.ref T24) kV24 dc24 pm24 an24 cd24 ct24), sl24⟩) (c24 : PySem.W.codeIn K cd24 "outer_ties" = true) (k24 : PySem.W.keepIn K (.ref f24) = true) (t24 : K.lookup T24 = some ⟨tc24, td24, .seq #[.none] tn24, ts24⟩)
    {f25 : Addr} {od25 an25 : Option Addr} {sl25 : Array (Option Value)} {oc25 kV25 dc25 pm25 cd25 ct25 : Value}
    (a25 : PySem.W.nsIn K mainGlobals "with_tie" = some (some (.ref f25))) (l25 : K.lookup f25 = some ⟨oc25, od25, .func (PySem.W.fnOf "with_tie" "with_tie" (defArgs sWith) (defBody sWith) (defScope sWith) .none kV25 dc25 pm25 an25 cd25 ct25), sl25⟩) (c25 : PySem.W.codeIn K cd25 "with_tie" = true) (k25 : PySem.W.keepIn K (.ref f25) = true)
    {f26 : Addr} {od26 an26 : Option Addr} {sl26 : Array (Option Value)} {oc26 kV26 dc26 pm26 cd26 ct26 : Value} {T26 : Addr} {tc26 : Value} {td26 : Option Addr} {ts26 : Array (Option Value)} {tn26 : Nat}
    (a26 : PySem.W.nsIn K mainGlobals "steps_of" = some (some (.ref f26))) (l26 : K.lookup f26 = some ⟨oc26, od26, .func (PySem.W.fnOf "steps_of" "steps_of" (defArgs sSteps) (defBody sSteps) (defScope sSteps) (.ref T26) kV26 dc26 pm26 an26 cd26 ct26), sl26⟩) (c26 : PySem.W.codeIn K cd26 "steps_of" = true) (k26 : PySem.W.keepIn K (.ref f26) = true) (t26 : K.lookup T26 = some ⟨tc26, td26, .seq #[.none] tn26, ts26⟩)
    {f27 : Addr} {od27 an27 : Option Addr} {sl27 : Array (Option Value)} {oc27 kV27 dc27 pm27 cd27 ct27 : Value}
    (a27 : PySem.W.nsIn K mainGlobals "steps_down" = some (some (.ref f27))) (l27 : K.lookup f27 = some ⟨oc27, od27, .func (PySem.W.fnOf "steps_down" "steps_down" (defArgs sDown) (defBody sDown) (defScope sDown) .none kV27 dc27 pm27 an27 cd27 ct27), sl27⟩) (c27 : PySem.W.codeIn K cd27 "steps_down" = true) (k27 : PySem.W.keepIn K (.ref f27) = true)
    {f28 : Addr} {od28 an28 : Option Addr} {sl28 : Array (Option Value)} {oc28 kV28 dc28 pm28 cd28 ct28 : Value}
    (a28 : PySem.W.nsIn K mainGlobals "_law_at" = some (some (.ref f28))) (l28 : K.lookup f28 = some ⟨oc28, od28, .func (PySem.W.fnOf "_law_at" "_law_at" (defArgs sAt) (defBody sAt) (defScope sAt) .none kV28 dc28 pm28 an28 cd28 ct28), sl28⟩) (c28 : PySem.W.codeIn K cd28 "_law_at" = true) (k28 : PySem.W.keepIn K (.ref f28) = true)
    {f29 : Addr} {od29 an29 : Option Addr} {sl29 : Array (Option Value)} {oc29 kV29 dc29 pm29 cd29 ct29 : Value}
    (a29 : PySem.W.nsIn K mainGlobals "_law_web" = some (some (.ref f29))) (l29 : K.lookup f29 = some ⟨oc29, od29, .func (PySem.W.fnOf "_law_web" "_law_web" (defArgs sWeb) (defBody sWeb) (defScope sWeb) .none kV29 dc29 pm29 an29 cd29 ct29), sl29⟩) (c29 : PySem.W.codeIn K cd29 "_law_web" = true) (k29 : PySem.W.keepIn K (.ref f29) = true)
    {f30 : Addr} {od30 an30 : Option Addr} {sl30 : Array (Option Value)} {oc30 kV30 dc30 pm30 cd30 ct30 : Value}
    (a30 : PySem.W.nsIn K mainGlobals "_law_rank" = some (some (.ref f30))) (l30 : K.lookup f30 = some ⟨oc30, od30, .func (PySem.W.fnOf "_law_rank" "_law_rank" (defArgs sLRank) (defBody sLRank) (defScope sLRank) .none kV30 dc30 pm30 an30 cd30 ct30), sl30⟩) (c30 : PySem.W.codeIn K cd30 "_law_rank" = true) (k30 : PySem.W.keepIn K (.ref f30) = true)
    {f31 : Addr} {od31 an31 : Option Addr} {sl31 : Array (Option Value)} {oc31 kV31 dc31 pm31 cd31 ct31 : Value}
    (a31 : PySem.W.nsIn K mainGlobals "_law_pick" = some (some (.ref f31))) (l31 : K.lookup f31 = some ⟨oc31, od31, .func (PySem.W.fnOf "_law_pick" "_law_pick" (defArgs sPick) (defBody sPick) (defScope sPick) .none kV31 dc31 pm31 an31 cd31 ct31), sl31⟩) (c31 : PySem.W.codeIn K cd31 "_law_pick" = true) (k31 : PySem.W.keepIn K (.ref f31) = true)
    {f32 : Addr} {od32 an32 : Option Addr} {sl32 : Array (Option Value)} {oc32 kV32 dc32 pm32 cd32 ct32 : Value}
    (a32 : PySem.W.nsIn K mainGlobals "_law_trees" = some (some (.ref f32))) (l32 : K.lookup f32 = some ⟨oc32, od32, .func (PySem.W.fnOf "_law_trees" "_law_trees" (defArgs sLTrees) (defBody sLTrees) (defScope sLTrees) .none kV32 dc32 pm32 an32 cd32 ct32), sl32⟩) (c32 : PySem.W.codeIn K cd32 "_law_trees" = true) (k32 : PySem.W.keepIn K (.ref f32) = true)
    {f33 : Addr} {od33 an33 : Option Addr} {sl33 : Array (Option Value)} {oc33 kV33 dc33 pm33 cd33 ct33 : Value}
    (a33 : PySem.W.nsIn K mainGlobals "_law_order" = some (some (.ref f33))) (l33 : K.lookup f33 = some ⟨oc33, od33, .func (PySem.W.fnOf "_law_order" "_law_order" (defArgs sOrder) (defBody sOrder) (defScope sOrder) .none kV33 dc33 pm33 an33 cd33 ct33), sl33⟩) (c33 : PySem.W.codeIn K cd33 "_law_order" = true) (k33 : PySem.W.keepIn K (.ref f33) = true)
    {f34 : Addr} {od34 an34 : Option Addr} {sl34 : Array (Option Value)} {oc34 kV34 dc34 pm34 cd34 ct34 : Value}
    (a34 : PySem.W.nsIn K mainGlobals "law" = some (some (.ref f34))) (l34 : K.lookup f34 = some ⟨oc34, od34, .func (PySem.W.fnOf "law" "law" (defArgs sLaw) (defBody sLaw) (defScope sLaw) .none kV34 dc34 pm34 an34 cd34 ct34), sl34⟩) (c34 : PySem.W.codeIn K cd34 "law" = true) (k34 : PySem.W.keepIn K (.ref f34) = true)
    (z0 : PySem.W.nsIn K mainGlobals "isinstance" = some none)
    (z1 : PySem.W.nsIn K mainGlobals "int" = some none)
    (z2 : PySem.W.nsIn K mainGlobals "bool" = some none)
    (z3 : PySem.W.nsIn K mainGlobals "len" = some none)
    (z4 : PySem.W.nsIn K mainGlobals "tuple" = some none)
    (z5 : PySem.W.nsIn K mainGlobals "all" = some none)
    (z6 : PySem.W.nsIn K mainGlobals "list" = some none)
    (z7 : PySem.W.nsIn K mainGlobals "min" = some none)
    (z8 : PySem.W.nsIn K mainGlobals "max" = some none)
    (z9 : PySem.W.nsIn K mainGlobals "range" = some none)
    (z10 : PySem.W.nsIn K mainGlobals "set" = some none)
    (z11 : PySem.W.nsIn K mainGlobals "sorted" = some none)
    (z12 : PySem.W.nsIn K mainGlobals "any" = some none)
    {CE : Addr} (aCE : PySem.W.nsIn K mainGlobals "End" = some (some (.ref CE)))
    (pgE : PySem.W.plainGet K CE Str.empty = true)
    (hdE : PySem.W.hasDictIn K CE = true)
    (poE : PySem.W.plainOver K CE = true)
    (saE : PySem.W.findIn K (.ref CE) "__setattr__" = some (some (.builtin "object.__setattr__")))
    (mkE : PySem.W.makesIn K CE = true)
    (kcE : PySem.W.keepIn K (.ref CE) = true)
    (inE : PySem.W.findIn K (.ref CE) "__init__" = some (some (.builtin "object.__init__")))
    {fEL : Addr} {odEL anEL : Option Addr} {slEL : Array (Option Value)} {ocEL kVEL dcEL pmEL cdEL ctEL : Value} (aEL : PySem.W.findIn K (.ref CE) "leaves" = some (some (.ref fEL)))
    (iEL : PySem.W.isFn K (.ref fEL) = true)
    (lEL : K.lookup fEL = some ⟨ocEL, odEL, .func (PySem.W.fnOf "leaves" "End.leaves" (defArgs sELv) (defBody sELv) (defScope sELv) .none kVEL dcEL pmEL anEL cdEL ctEL), slEL⟩)
    (cEL : PySem.W.codeIn K cdEL "End.leaves" = true)
    (kEL : PySem.W.keepIn K (.ref fEL) = true)
    {fEM : Addr} {odEM anEM : Option Addr} {slEM : Array (Option Value)} {ocEM kVEM dcEM pmEM cdEM ctEM : Value} (aEM : PySem.W.findIn K (.ref CE) "many" = some (some (.ref fEM)))
    (iEM : PySem.W.isFn K (.ref fEM) = true)
    (lEM : K.lookup fEM = some ⟨ocEM, odEM, .func (PySem.W.fnOf "many" "End.many" (defArgs sEMany) (defBody sEMany) (defScope sEMany) .none kVEM dcEM pmEM anEM cdEM ctEM), slEM⟩)
    (cEM : PySem.W.codeIn K cdEM "End.many" = true)
    (kEM : PySem.W.keepIn K (.ref fEM) = true)
    {CC : Addr} (aCC : PySem.W.nsIn K mainGlobals "Curl" = some (some (.ref CC)))
    (pgC : PySem.W.plainGet K CC Str.empty = true)
    (hdC : PySem.W.hasDictIn K CC = true)
    (poC : PySem.W.plainOver K CC = true)
    (saC : PySem.W.findIn K (.ref CC) "__setattr__" = some (some (.builtin "object.__setattr__")))
    (mkC : PySem.W.makesIn K CC = true)
    (kcC : PySem.W.keepIn K (.ref CC) = true)
    {fCI : Addr} {odCI anCI : Option Addr} {slCI : Array (Option Value)} {ocCI kVCI dcCI pmCI cdCI ctCI : Value} (aCI : PySem.W.findIn K (.ref CC) "__init__" = some (some (.ref fCI)))
    (iCI : PySem.W.isFn K (.ref fCI) = true)
    (lCI : K.lookup fCI = some ⟨ocCI, odCI, .func (PySem.W.fnOf "__init__" "Curl.__init__" (defArgs sCInit) (defBody sCInit) (defScope sCInit) .none kVCI dcCI pmCI anCI cdCI ctCI), slCI⟩)
    (cCI : PySem.W.codeIn K cdCI "Curl.__init__" = true)
    (kCI : PySem.W.keepIn K (.ref fCI) = true)
    {fCL : Addr} {odCL anCL : Option Addr} {slCL : Array (Option Value)} {ocCL kVCL dcCL pmCL cdCL ctCL : Value} (aCL : PySem.W.findIn K (.ref CC) "leaves" = some (some (.ref fCL)))
    (iCL : PySem.W.isFn K (.ref fCL) = true)
    (lCL : K.lookup fCL = some ⟨ocCL, odCL, .func (PySem.W.fnOf "leaves" "Curl.leaves" (defArgs sCLv) (defBody sCLv) (defScope sCLv) .none kVCL dcCL pmCL anCL cdCL ctCL), slCL⟩)
    (cCL : PySem.W.codeIn K cdCL "Curl.leaves" = true)
    (kCL : PySem.W.keepIn K (.ref fCL) = true)
    {fCM : Addr} {odCM anCM : Option Addr} {slCM : Array (Option Value)} {ocCM kVCM dcCM pmCM cdCM ctCM : Value} (aCM : PySem.W.findIn K (.ref CC) "many" = some (some (.ref fCM)))
    (iCM : PySem.W.isFn K (.ref fCM) = true)
    (lCM : K.lookup fCM = some ⟨ocCM, odCM, .func (PySem.W.fnOf "many" "Curl.many" (defArgs sCMany) (defBody sCMany) (defScope sCMany) .none kVCM dcCM pmCM anCM cdCM ctCM), slCM⟩)
    (cCM : PySem.W.codeIn K cdCM "Curl.many" = true)
    (kCM : PySem.W.keepIn K (.ref fCM) = true)
    (nCtie : PySem.W.findIn K (.ref CC) "tie" = some none)
    (nCrest : PySem.W.findIn K (.ref CC) "rest" = some none)
    {CB : Addr} (aCB : PySem.W.nsIn K mainGlobals "Bridge" = some (some (.ref CB)))
    (pgB : PySem.W.plainGet K CB Str.empty = true)
    (hdB : PySem.W.hasDictIn K CB = true)
    (poB : PySem.W.plainOver K CB = true)
    (saB : PySem.W.findIn K (.ref CB) "__setattr__" = some (some (.builtin "object.__setattr__")))
    (mkB : PySem.W.makesIn K CB = true)
    (kcB : PySem.W.keepIn K (.ref CB) = true)
    {fBI : Addr} {odBI anBI : Option Addr} {slBI : Array (Option Value)} {ocBI kVBI dcBI pmBI cdBI ctBI : Value} (aBI : PySem.W.findIn K (.ref CB) "__init__" = some (some (.ref fBI)))
    (iBI : PySem.W.isFn K (.ref fBI) = true)
    (lBI : K.lookup fBI = some ⟨ocBI, odBI, .func (PySem.W.fnOf "__init__" "Bridge.__init__" (defArgs sBInit) (defBody sBInit) (defScope sBInit) .none kVBI dcBI pmBI anBI cdBI ctBI), slBI⟩)
    (cBI : PySem.W.codeIn K cdBI "Bridge.__init__" = true)
    (kBI : PySem.W.keepIn K (.ref fBI) = true)
    {fBL : Addr} {odBL anBL : Option Addr} {slBL : Array (Option Value)} {ocBL kVBL dcBL pmBL cdBL ctBL : Value} (aBL : PySem.W.findIn K (.ref CB) "leaves" = some (some (.ref fBL)))
    (iBL : PySem.W.isFn K (.ref fBL) = true)
    (lBL : K.lookup fBL = some ⟨ocBL, odBL, .func (PySem.W.fnOf "leaves" "Bridge.leaves" (defArgs sBLv) (defBody sBLv) (defScope sBLv) .none kVBL dcBL pmBL anBL cdBL ctBL), slBL⟩)
    (cBL : PySem.W.codeIn K cdBL "Bridge.leaves" = true)
    (kBL : PySem.W.keepIn K (.ref fBL) = true)
    {fBM : Addr} {odBM anBM : Option Addr} {slBM : Array (Option Value)} {ocBM kVBM dcBM pmBM cdBM ctBM : Value} (aBM : PySem.W.findIn K (.ref CB) "many" = some (some (.ref fBM)))
    (iBM : PySem.W.isFn K (.ref fBM) = true)
    (lBM : K.lookup fBM = some ⟨ocBM, odBM, .func (PySem.W.fnOf "many" "Bridge.many" (defArgs sBMany) (defBody sBMany) (defScope sBMany) .none kVBM dcBM pmBM anBM cdBM ctBM), slBM⟩)
    (cBM : PySem.W.codeIn K cdBM "Bridge.many" = true)
    (kBM : PySem.W.keepIn K (.ref fBM) = true)
    (nBtie : PySem.W.findIn K (.ref CB) "tie" = some none)
    (nBrest : PySem.W.findIn K (.ref CB) "rest" = some none)
    {CF : Addr} (aCF : PySem.W.nsIn K mainGlobals "Fork" = some (some (.ref CF)))
    (pgF : PySem.W.plainGet K CF Str.empty = true)
    (hdF : PySem.W.hasDictIn K CF = true)
    (poF : PySem.W.plainOver K CF = true)
    (saF : PySem.W.findIn K (.ref CF) "__setattr__" = some (some (.builtin "object.__setattr__")))
    (mkF : PySem.W.makesIn K CF = true)
    (kcF : PySem.W.keepIn K (.ref CF) = true)
    {fFI : Addr} {odFI anFI : Option Addr} {slFI : Array (Option Value)} {ocFI kVFI dcFI pmFI cdFI ctFI : Value} (aFI : PySem.W.findIn K (.ref CF) "__init__" = some (some (.ref fFI)))
    (iFI : PySem.W.isFn K (.ref fFI) = true)
    (lFI : K.lookup fFI = some ⟨ocFI, odFI, .func (PySem.W.fnOf "__init__" "Fork.__init__" (defArgs sFInit) (defBody sFInit) (defScope sFInit) .none kVFI dcFI pmFI anFI cdFI ctFI), slFI⟩)
    (cFI : PySem.W.codeIn K cdFI "Fork.__init__" = true)
    (kFI : PySem.W.keepIn K (.ref fFI) = true)
    {fFL : Addr} {odFL anFL : Option Addr} {slFL : Array (Option Value)} {ocFL kVFL dcFL pmFL cdFL ctFL : Value} (aFL : PySem.W.findIn K (.ref CF) "leaves" = some (some (.ref fFL)))
    (iFL : PySem.W.isFn K (.ref fFL) = true)
    (lFL : K.lookup fFL = some ⟨ocFL, odFL, .func (PySem.W.fnOf "leaves" "Fork.leaves" (defArgs sFLv) (defBody sFLv) (defScope sFLv) .none kVFL dcFL pmFL anFL cdFL ctFL), slFL⟩)
    (cFL : PySem.W.codeIn K cdFL "Fork.leaves" = true)
    (kFL : PySem.W.keepIn K (.ref fFL) = true)
    {fFM : Addr} {odFM anFM : Option Addr} {slFM : Array (Option Value)} {ocFM kVFM dcFM pmFM cdFM ctFM : Value} (aFM : PySem.W.findIn K (.ref CF) "many" = some (some (.ref fFM)))
    (iFM : PySem.W.isFn K (.ref fFM) = true)
    (lFM : K.lookup fFM = some ⟨ocFM, odFM, .func (PySem.W.fnOf "many" "Fork.many" (defArgs sFMany) (defBody sFMany) (defScope sFMany) .none kVFM dcFM pmFM anFM cdFM ctFM), slFM⟩)
    (cFM : PySem.W.codeIn K cdFM "Fork.many" = true)
    (kFM : PySem.W.keepIn K (.ref fFM) = true)
    (nFtie : PySem.W.findIn K (.ref CF) "tie" = some none)
    (nFwithout : PySem.W.findIn K (.ref CF) "without" = some none)
    (nFwithin : PySem.W.findIn K (.ref CF) "within" = some none)
    : ∃ fd : FuncData, (∀ (s : Shared) (v : Value), BindsTo s fd ⟨[v], []⟩ [("_law_script", v)]) /\ ∀ base : Heap, K.In base -> base.Ns mainGlobals mg -> FnOk l.prog w K mg base CX0 16 fa fd ["_law_script"] (spLaw K) := by
  have e := hfa.symm.trans (PySem.W.mg_of X G a34)
  cases e
  have S0 : Src K mg "is_whole" sIsWhole ["thing"] := src_mk X G a0 l0 c0 k0 fun _ _ _ _ _ _ => len1 (fun _ => rfl)
  have S1 : Src K mg "is_whole_within" sWithin ["thing", "least", "greatest"] := src_mk X G a1 l1 c1 k1 fun _ _ _ _ _ _ => len3 (fun _ _ _ => rfl)
  have S2 : Src K mg "is_each_once" sOnce ["thing", "many"] := src_mk X G a2 l2 c2 k2 fun _ _ _ _ _ _ => len2 (fun _ _ => rfl)
  have S3 : Src K mg "lesser_first" sLesser ["a", "b"] := src_mk X G a3 l3 c3 k3 fun _ _ _ _ _ _ => len2 (fun _ _ => rfl)
  have S4 : Src K mg "refuse_no_tie_of" sNoTie ["web", "k"] := src_mk X G a4 l4 c4 k4 fun _ _ _ _ _ _ => len2 (fun _ _ => rfl)
  have S5 : Src K mg "whole_pick" sWhole ["web"] := src_mk X G a5 l5 c5 k5 fun _ _ _ _ _ _ => len1 (fun _ => rfl)
  have S6 : Src K mg "told_order" sTold ["web", "order"] := src_mk X G a6 l6 c6 k6 fun _ _ _ _ _ _ => len2 (fun _ _ => rfl)
  have S7 : Src K mg "with_one_more" sMore ["picks", "many"] := src_mk X G a7 l7 c7 k7 fun _ _ _ _ _ _ => len2 (fun _ _ => rfl)
  have S8 : Src K mg "all_picks" sAll ["web"] := src_mk X G a8 l8 c8 k8 fun _ _ _ _ _ _ => len1 (fun _ => rfl)
  have S9 : Src K mg "heads_of" sHeads ["web", "pick"] := src_mk X G a9 l9 c9 k9 fun _ _ _ _ _ _ => len2 (fun _ _ => rfl)
  have S10 : Src K mg "rank_of" sRank ["web", "pick"] := src_mk X G a10 l10 c10 k10 fun _ _ _ _ _ _ => len2 (fun _ _ => rfl)
  have S11 : Src K mg "rank_of_web" sRankW ["web"] := src_mk X G a11 l11 c11 k11 fun _ _ _ _ _ _ => len1 (fun _ => rfl)
  have S12 : Src K mg "kind_of" sKind ["web", "k"] := src_mk X G a12 l12 c12 k12 fun _ _ _ _ _ _ => len2 (fun _ _ => rfl)
  have S13 : Src K mg "left_out" sLeft ["web", "k"] := src_mk X G a13 l13 c13 k13 fun _ _ _ _ _ _ => len2 (fun _ _ => rfl)
  have S14 : Src K mg "moved" sMoved ["point", "low", "high"] := src_mk X G a14 l14 c14 k14 fun _ _ _ _ _ _ => len3 (fun _ _ _ => rfl)
  have S15 : Src K mg "drawn_together" sDrawn ["web", "k"] := src_mk X G a15 l15 c15 k15 fun _ _ _ _ _ _ => len2 (fun _ _ => rfl)
  have S16 : Src K mg "picks_with" sPW ["web", "size", "rank"] := src_mk X G a16 l16 c16 k16 fun _ _ _ _ _ _ => len3 (fun _ _ _ => rfl)
  have S17 : Src K mg "all_trees" sAT ["web"] := src_mk X G a17 l17 c17 k17 fun _ _ _ _ _ _ => len1 (fun _ => rfl)
  have S18 : Src K mg "leads_across" sAcross ["web", "heads", "k"] := src_mk X G a18 l18 c18 k18 fun _ _ _ _ _ _ => len3 (fun _ _ _ => rfl)
  have S19 : Src K mg "swaps_of" sSwaps ["web", "tree"] := src_mk X G a19 l19 c19 k19 fun _ _ _ _ _ _ => len2 (fun _ _ => rfl)
  have S20 : Src K mg "is_first" sFirst ["order", "k", "ties"] := src_mk X G a20 l20 c20 k20 fun _ _ _ _ _ _ => len3 (fun _ _ _ => rfl)
  have S21 : Src K mg "is_inner" sIsIn ["order", "swaps", "k"] := src_mk X G a21 l21 c21 k21 fun _ _ _ _ _ _ => len3 (fun _ _ _ => rfl)
  have S22 : Src K mg "is_outer" sIsOut ["order", "swaps", "k"] := src_mk X G a22 l22 c22 k22 fun _ _ _ _ _ _ => len3 (fun _ _ _ => rfl)
  have S23 : SrcD K mg "inner_ties" sInner ["web", "tree", "order"] := srcD_mk X G a23 l23 c23 k23 t23 (len3 fun _ _ _ => ⟨_, rfl, rfl⟩) (lenS2 fun _ _ => ⟨_, rfl, rfl⟩)
  have S24 : SrcD K mg "outer_ties" sOuter ["web", "tree", "order"] := srcD_mk X G a24 l24 c24 k24 t24 (len3 fun _ _ _ => ⟨_, rfl, rfl⟩) (lenS2 fun _ _ => ⟨_, rfl, rfl⟩)
  have S25 : Src K mg "with_tie" sWith ["ties", "tie"] := src_mk X G a25 l25 c25 k25 fun _ _ _ _ _ _ => len2 (fun _ _ => rfl)
  have S26 : SrcD K mg "steps_of" sSteps ["web", "order"] := srcD_mk X G a26 l26 c26 k26 t26 (len2 fun _ _ => ⟨_, rfl, rfl⟩) (lenS1 fun _ => ⟨_, rfl, rfl⟩)
  have S27 : Src K mg "steps_down" sDown ["web", "numbers", "order"] := src_mk X G a27 l27 c27 k27 fun _ _ _ _ _ _ => len3 (fun _ _ _ => rfl)
  have S28 : Src K mg "_law_at" sAt ["_law_script", "_law_k"] := src_mk X G a28 l28 c28 k28 fun _ _ _ _ _ _ => len2 (fun _ _ => rfl)
  have S29 : Src K mg "_law_web" sWeb ["_law_script", "_law_few"] := src_mk X G a29 l29 c29 k29 fun _ _ _ _ _ _ => len2 (fun _ _ => rfl)
  have S30 : Src K mg "_law_rank" sLRank ["_law_web_here", "_law_pick_here"] := src_mk X G a30 l30 c30 k30 fun _ _ _ _ _ _ => len2 (fun _ _ => rfl)
  have S31 : Src K mg "_law_pick" sPick ["_law_mask", "_law_many"] := src_mk X G a31 l31 c31 k31 fun _ _ _ _ _ _ => len2 (fun _ _ => rfl)
  have S32 : Src K mg "_law_trees" sLTrees ["_law_web_here"] := src_mk X G a32 l32 c32 k32 fun _ _ _ _ _ _ => len1 (fun _ => rfl)
  have S33 : Src K mg "_law_order" sOrder ["_law_script", "_law_many"] := src_mk X G a33 l33 c33 k33 fun _ _ _ _ _ _ => len2 (fun _ _ => rfl)
  have T : Txt K mg := ⟨PySem.W.mg_none_of X G z0, PySem.W.mg_none_of X G z1, PySem.W.mg_none_of X G z2, PySem.W.mg_none_of X G z3, PySem.W.mg_none_of X G z4, PySem.W.mg_none_of X G z5, PySem.W.mg_none_of X G z6, PySem.W.mg_none_of X G z7, PySem.W.mg_none_of X G z8, PySem.W.mg_none_of X G z9, PySem.W.mg_none_of X G z10, PySem.W.mg_none_of X G z11⟩
  have hany : mg "any" = none := PySem.W.mg_none_of X G z12
  have T4 : StK K mg CE CC CB CF := ⟨⟨pgE, hdE, poE, saE⟩, ⟨pgC, hdC, poC, saC⟩, ⟨pgB, hdB, poB, saB⟩, ⟨pgF, hdF, poF, saF⟩, nCtie, nCrest, nBtie, nBrest, nFtie, nFwithout, nFwithin, ⟨mkE, inE, kcE⟩, ⟨fCI, _, ⟨mkC, aCI, iCI, kcC⟩, fun_mk (st := sCInit) lCI cCI kCI, (fun_mk (st := sCInit) lCI cCI kCI).binds fun _ _ _ _ _ _ => len3 (fun _ _ _ => rfl)⟩, ⟨fBI, _, ⟨mkB, aBI, iBI, kcB⟩, fun_mk (st := sBInit) lBI cBI kBI, (fun_mk (st := sBInit) lBI cBI kBI).binds fun _ _ _ _ _ _ => len3 (fun _ _ _ => rfl)⟩, ⟨fFI, _, ⟨mkF, aFI, iFI, kcF⟩, fun_mk (st := sFInit) lFI cFI kFI, (fun_mk (st := sFInit) lFI cFI kFI).binds fun _ _ _ _ _ _ => len4 (fun _ _ _ _ => rfl)⟩, PySem.W.mg_of X G aCE, PySem.W.mg_of X G aCC, PySem.W.mg_of X G aCB, PySem.W.mg_of X G aCF⟩
  have TL : StL K CE CC CB CF := ⟨⟨fEL, _, ⟨aEL, iEL, kEL⟩, fun_mk (st := sELv) lEL cEL kEL, (fun_mk (st := sELv) lEL cEL kEL).binds fun _ _ _ _ _ _ => len1 (fun _ => rfl)⟩, ⟨fCL, _, ⟨aCL, iCL, kCL⟩, fun_mk (st := sCLv) lCL cCL kCL, (fun_mk (st := sCLv) lCL cCL kCL).binds fun _ _ _ _ _ _ => len1 (fun _ => rfl)⟩, ⟨fBL, _, ⟨aBL, iBL, kBL⟩, fun_mk (st := sBLv) lBL cBL kBL, (fun_mk (st := sBLv) lBL cBL kBL).binds fun _ _ _ _ _ _ => len1 (fun _ => rfl)⟩, ⟨fFL, _, ⟨aFL, iFL, kFL⟩, fun_mk (st := sFLv) lFL cFL kFL, (fun_mk (st := sFLv) lFL cFL kFL).binds fun _ _ _ _ _ _ => len1 (fun _ => rfl)⟩, ⟨fEM, _, ⟨aEM, iEM, kEM⟩, fun_mk (st := sEMany) lEM cEM kEM, (fun_mk (st := sEMany) lEM cEM kEM).binds fun _ _ _ _ _ _ => len1 (fun _ => rfl)⟩, ⟨fCM, _, ⟨aCM, iCM, kCM⟩, fun_mk (st := sCMany) lCM cCM kCM, (fun_mk (st := sCMany) lCM cCM kCM).binds fun _ _ _ _ _ _ => len1 (fun _ => rfl)⟩, ⟨fBM, _, ⟨aBM, iBM, kBM⟩, fun_mk (st := sBMany) lBM cBM kBM, (fun_mk (st := sBMany) lBM cBM kBM).binds fun _ _ _ _ _ _ => len1 (fun _ => rfl)⟩, ⟨fFM, _, ⟨aFM, iFM, kFM⟩, fun_mk (st := sFMany) lFM cFM kFM, (fun_mk (st := sFMany) lFM cFM kFM).binds fun _ _ _ _ _ _ => len1 (fun _ => rfl)⟩⟩
  refine ⟨PySem.W.fnOf "law" "law" (defArgs sLaw) (defBody sLaw) (defScope sLaw) .none kV34 dc34 pm34 an34 cd34 ct34, fun s v => .of_eq rfl, fun base _ _ => ?_⟩
  have D0 : Def l.prog w K mg base 1 _ _ _ := d_wholeI T S0
  have D1 : Def l.prog w K mg base 2 _ _ _ := d_withI S1 D0
  have D2 : Def l.prog w K mg base 2 _ _ _ := d_once T S2 D0
  have D3 : Def l.prog w K mg base 1 _ _ _ := d_less S3
  have D4 : Def l.prog w K mg base 3 _ _ _ := d_notieI T S4 D1
  have D5 : Def l.prog w K mg base 1 _ _ _ := d_wp T S5
  have D6 : Def l.prog w K mg base 3 _ _ _ := d_told T S6 D5 D2
  have D7 : Def l.prog w K mg base 1 _ _ _ := d_more T S7
  have D8 : Def l.prog w K mg base 2 _ _ _ := d_all T S8 D7
  have D9 : Def l.prog w K mg base 1 _ _ _ := d_heads T S9
  have D10 : Def l.prog w K mg base 2 _ _ _ := d_rank T T.set S10 D9
  have D11 : Def l.prog w K mg base 3 _ _ _ := d_rankw S11 D5 D10
  have D12 : Def l.prog w K mg base 4 _ _ _ := d_kindI T S12 D4 D5 D10 D11
  have D13 : Def l.prog w K mg base 4 _ _ _ := d_leftI S13 D4
  have D14 : Def l.prog w K mg base 1 _ _ _ := d_moved S14
  have D15 : Def l.prog w K mg base 5 _ _ _ := d_drawnI T S15 D13 D14 D3
  have D16 : Def l.prog w K mg base 3 _ _ _ := d_pw T S16 D8 D10
  have D17 : Def l.prog w K mg base 4 _ _ _ := d_at_ S17 D11 D16
  have D18 : Def l.prog w K mg base 1 _ _ _ := d_across S18
  have D19 : Def l.prog w K mg base 2 _ _ _ := d_swaps T S19 D9 D5 D18
  have D20 : Def l.prog w K mg base 1 _ _ _ := d_first hany S20
  have D21 : Def l.prog w K mg base 2 _ _ _ := d_isin S21 D20
  have D22 : Def l.prog w K mg base 2 _ _ _ := d_isout S22 D20
  have D23 : DefD l.prog w K mg base 4 _ _ _ := d_inner T S23 D6 D19 D21
  have D24 : DefD l.prog w K mg base 4 _ _ _ := d_outer T S24 D6 D19 D5 D22
  have D25 : Def l.prog w K mg base 1 _ _ _ := d_with T S25
  have D27 : ∀ d, Def l.prog w K mg base (6 + d) _ _ _ := d_down T4 S27 D12 D13 D15
  have D26 : DefD l.prog w K mg base 15 _ _ _ := d_steps S26 D5 D6 D27
  have D28 : Def l.prog w K mg base 1 _ _ _ := d_at T S28
  have D29 : Def l.prog w K mg base 2 _ _ _ := d_web T S29 D28
  have D30 : Def l.prog w K mg base 1 _ _ _ := d_lrank T S30
  have D31 : Def l.prog w K mg base 1 _ _ _ := d_pick T S31
  have D32 : Def l.prog w K mg base 2 _ _ _ := d_ltrees T S32 D30 D31
  have D33 : Def l.prog w K mg base 2 _ _ _ := d_order T S33 D28
  have OL : LvOk l.prog w K mg base CE CC CB CF 8 := lv_ok T T4 TL D25 8
  have OM : MyOk l.prog w K mg base CE CC CB CF 8 := my_ok T4 TL 8
  exact ok_law (fun_mk (st := sLaw) l34 c34 k34) T T4 OL OM D28 D29 D33 D26 D32 D17 D23 D24
theorem walk {l : PySem.W.OpenLaw} {q : Program} {loose : List Str} {XP : (Str -> Option Value) -> Heap -> Prop} {YP : World -> Heap -> Prop} {d : DefRec} {K : Params -> PySem.W.Frag} (hn : l.most = some 63) (hdf : d.params.defaults = [])
    (hY : ∀ (w : World) (h : Heap), YP w h -> (K w.params).In h)
    (F : ∀ (w : World) (mg : Str -> Option Value) (fa : Addr) (h : Heap), (K w.params).In h -> h.Ns mainGlobals mg -> mg d.name = some (.ref fa) ->
      ∃ fd : FuncData, (∀ (s : Shared) (u : Value), BindsTo s fd ⟨[u], []⟩ [("_law_script", u)]) /\ ∀ base : Heap, (K w.params).In base -> base.Ns mainGlobals mg -> FnOk l.prog w (K w.params) mg base CX0 16 fa fd ["_law_script"] (spLaw (K w.params))) :
    PySem.W.WalkO q loose XP YP l.row.toRowW d [] (fun f vs => PySem.call f vs) :=
  L2.walk_of (n := 63) (k := 16) (x := "_law_script") (CX := fun _ => CX0) (sp := fun w => spLaw (K w.params)) hn (by decide) hdf ⟨rfl, by decide, by decide⟩ hY F (fun _ _ a ns hl _ hS => ⟨a, ns, rfl, hS, hl, fun _ => rfl⟩) fun _ _ _ _ _ z => z
end My
def PySem.W.Fast.tw6111038475687396987 : Unit := ()
def PySem.W.Fast.tw17715225509873648296 : Unit := ()
def PySem.W.Fast.tw11610941115516450990 : Unit := ()
def PySem.W.Fast.tw13793596683328477719 : Unit := ()
def PySem.W.Fast.tw3731581816895761902 : Unit := ()
def PySem.W.Fast.tw15984895326477274888 : Unit := ()
def PySem.W.Fast.tw10794900984422793373 : Unit := ()
def PySem.W.Fast.tw284773065765550765 : Unit := ()
def PySem.W.Fast.tw7084377350447412156 : Unit := ()
def PySem.W.Fast.tw7746785473523718533 : Unit := ()
def PySem.W.Fast.tw1467016736850899950 : Unit := ()
def PySem.W.Fast.tw12620907763183825583 : Unit := ()
def PySem.W.Fast.tw10704090974387051990 : Unit := ()
open PySem PySem.W PyProof.Rows
set_option maxRecDepth 100000 in
set_option maxHeartbeats 0 in
theorem PySem.Challenge.cw_manycounts_k54_leaves_are_trees_holds : PySem.Challenge.rw_manycounts_k54_leaves_are_trees.Holds := by
  w_on; o_law; k_head; (case hw => w_witness2)
  k_fill
  refine My.walk (l := PySem.Challenge.rw_manycounts_k54_leaves_are_trees) rfl rfl (fun w h Y => PySem.W.kIn_of Y) ?F
  case F =>
    intro w mg fa h KX G hmg
    refine' My.all_mk KX G hmg ?a0 ?l0 ?c0 ?k0 ?a1 ?l1 ?c1 ?k1 ?a2 ?l2 ?c2 ?k2 ?a3 ?l3 ?c3 ?k3 ?a4 ?l4 ?c4 ?k4 ?a5 ?l5 ?c5 ?k5 ?a6 ?l6 ?c6 ?k6 ?a7 ?l7 ?c7 ?k7 ?a8 ?l8 ?c8 ?k8 ?a9 ?l9 ?c9 ?k9 ?a10 ?l10 ?c10 ?k10 ?a11 ?l11 ?c11 ?k11 ?a12 ?l12 ?c12 ?k12 ?a13 ?l13 ?c13 ?k13 ?a14 ?l14 ?c14 ?k14 ?a15 ?l15 ?c15 ?k15 ?a16 ?l16 ?c16 ?k16 ?a17 ?l17 ?c17 ?k17 ?a18 ?l18 ?c18 ?k18 ?a19 ?l19 ?c19 ?k19 ?a20 ?l20 ?c20 ?k20 ?a21 ?l21 ?c21 ?k21 ?a22 ?l22 ?c22 ?k22 ?a23 ?l23 ?c23 ?k23 ?t23 ?a24 ?l24 ?c24 ?k24 ?t24 ?a25 ?l25 ?c25 ?k25 ?a26 ?l26 ?c26 ?k26 ?t26 ?a27 ?l27 ?c27 ?k27 ?a28 ?l28 ?c28 ?k28 ?a29 ?l29 ?c29 ?k29 ?a30 ?l30 ?c30 ?k30 ?a31 ?l31 ?c31 ?k31 ?a32 ?l32 ?c32 ?k32 ?a33 ?l33 ?c33 ?k33 ?a34 ?l34 ?c34 ?k34 ?z0 ?z1 ?z2 ?z3 ?z4 ?z5 ?z6 ?z7 ?z8 ?z9 ?z10 ?z11 ?z12 ?aCE ?pgE ?hdE ?poE ?saE ?mkE ?kcE ?inE ?aEL ?iEL ?lEL ?cEL ?kEL ?aEM ?iEM ?lEM ?cEM ?kEM ?aCC ?pgC ?hdC ?poC ?saC ?mkC ?kcC ?aCI ?iCI ?lCI ?cCI ?kCI ?aCL ?iCL ?lCL ?cCL ?kCL ?aCM ?iCM ?lCM ?cCM ?kCM ?nCtie ?nCrest ?aCB ?pgB ?hdB ?poB ?saB ?mkB ?kcB ?aBI ?iBI ?lBI ?cBI ?kBI ?aBL ?iBL ?lBL ?cBL ?kBL ?aBM ?iBM ?lBM ?cBM ?kBM ?nBtie ?nBrest ?aCF ?pgF ?hdF ?poF ?saF ?mkF ?kcF ?aFI ?iFI ?lFI ?cFI ?kFI ?aFL ?iFL ?lFL ?cFL ?kFL ?aFM ?iFM ?lFM ?cFM ?kFM ?nFtie ?nFwithout ?nFwithin
    (case a0 => k_is); (case l0 => k_is); (case c0 => k_is); (case k0 => k_is)
    (case a1 => k_is); (case l1 => k_is); (case c1 => k_is); (case k1 => k_is)
    (case a2 => k_is); (case l2 => k_is); (case c2 => k_is); (case k2 => k_is)
    (case a3 => k_is); (case l3 => k_is); (case c3 => k_is); (case k3 => k_is)
    (case a4 => k_is); (case l4 => k_is); (case c4 => k_is); (case k4 => k_is)
    (case a5 => k_is); (case l5 => k_is); (case c5 => k_is); (case k5 => k_is)
    (case a6 => k_is); (case l6 => k_is); (case c6 => k_is); (case k6 => k_is)
    (case a7 => k_is); (case l7 => k_is); (case c7 => k_is); (case k7 => k_is)
    (case a8 => k_is); (case l8 => k_is); (case c8 => k_is); (case k8 => k_is)
    (case a9 => k_is); (case l9 => k_is); (case c9 => k_is); (case k9 => k_is)
    (case a10 => k_is); (case l10 => k_is); (case c10 => k_is); (case k10 => k_is)
    (case a11 => k_is); (case l11 => k_is); (case c11 => k_is); (case k11 => k_is)
    (case a12 => k_is); (case l12 => k_is); (case c12 => k_is); (case k12 => k_is)
    (case a13 => k_is); (case l13 => k_is); (case c13 => k_is); (case k13 => k_is)
    (case a14 => k_is); (case l14 => k_is); (case c14 => k_is); (case k14 => k_is)
    (case a15 => k_is); (case l15 => k_is); (case c15 => k_is); (case k15 => k_is)
    (case a16 => k_is); (case l16 => k_is); (case c16 => k_is); (case k16 => k_is)
    (case a17 => k_is); (case l17 => k_is); (case c17 => k_is); (case k17 => k_is)
    (case a18 => k_is); (case l18 => k_is); (case c18 => k_is); (case k18 => k_is)
    (case a19 => k_is); (case l19 => k_is); (case c19 => k_is); (case k19 => k_is)
    (case a20 => k_is); (case l20 => k_is); (case c20 => k_is); (case k20 => k_is)
    (case a21 => k_is); (case l21 => k_is); (case c21 => k_is); (case k21 => k_is)
    (case a22 => k_is); (case l22 => k_is); (case c22 => k_is); (case k22 => k_is)
    (case a23 => k_is); (case l23 => k_is); (case c23 => k_is); (case k23 => k_is)
    (case t23 => k_is); (case a24 => k_is); (case l24 => k_is); (case c24 => k_is)
    (case k24 => k_is); (case t24 => k_is); (case a25 => k_is); (case l25 => k_is)
    (case c25 => k_is); (case k25 => k_is); (case a26 => k_is); (case l26 => k_is)
    (case c26 => k_is); (case k26 => k_is); (case t26 => k_is); (case a27 => k_is)
    (case l27 => k_is); (case c27 => k_is); (case k27 => k_is); (case a28 => k_is)
    (case l28 => k_is); (case c28 => k_is); (case k28 => k_is); (case a29 => k_is)
    (case l29 => k_is); (case c29 => k_is); (case k29 => k_is); (case a30 => k_is)
    (case l30 => k_is); (case c30 => k_is); (case k30 => k_is); (case a31 => k_is)
    (case l31 => k_is); (case c31 => k_is); (case k31 => k_is); (case a32 => k_is)
    (case l32 => k_is); (case c32 => k_is); (case k32 => k_is); (case a33 => k_is)
    (case l33 => k_is); (case c33 => k_is); (case k33 => k_is); (case a34 => k_is)
    (case l34 => k_is); (case c34 => k_is); (case k34 => k_is); (case z0 => k_is)
    (case z1 => k_is); (case z2 => k_is); (case z3 => k_is); (case z4 => k_is)
    (case z5 => k_is); (case z6 => k_is); (case z7 => k_is); (case z8 => k_is)
    (case z9 => k_is); (case z10 => k_is); (case z11 => k_is); (case z12 => k_is)
    (case aCE => k_is)
    (case pgE => k_is)
    (case hdE => k_is)
    (case poE => k_is)
    (case saE => k_is)
    (case mkE => k_is)
    (case kcE => k_is)
    (case inE => k_is)
    (case aEL => k_is)
    (case iEL => k_is)
    (case lEL => k_is)
    (case cEL => k_is)
    (case kEL => k_is)
    (case aEM => k_is)
    (case iEM => k_is)
    (case lEM => k_is)
    (case cEM => k_is)
    (case kEM => k_is)
    (case aCC => k_is)
    (case pgC => k_is)
    (case hdC => k_is)
    (case poC => k_is)
    (case saC => k_is)
    (case mkC => k_is)
    (case kcC => k_is)
    (case aCI => k_is)
    (case iCI => k_is)
    (case lCI => k_is)
    (case cCI => k_is)
    (case kCI => k_is)
    (case aCL => k_is)
    (case iCL => k_is)
    (case lCL => k_is)
    (case cCL => k_is)
    (case kCL => k_is)
    (case aCM => k_is)
    (case iCM => k_is)
    (case lCM => k_is)
    (case cCM => k_is)
    (case kCM => k_is)
    (case nCtie => k_is)
    (case nCrest => k_is)
    (case aCB => k_is)
    (case pgB => k_is)
    (case hdB => k_is)
    (case poB => k_is)
    (case saB => k_is)
    (case mkB => k_is)
    (case kcB => k_is)
    (case aBI => k_is)
    (case iBI => k_is)
    (case lBI => k_is)
    (case cBI => k_is)
    (case kBI => k_is)
    (case aBL => k_is)
    (case iBL => k_is)
    (case lBL => k_is)
    (case cBL => k_is)
    (case kBL => k_is)
    (case aBM => k_is)
    (case iBM => k_is)
    (case lBM => k_is)
    (case cBM => k_is)
    (case kBM => k_is)
    (case nBtie => k_is)
    (case nBrest => k_is)
    (case aCF => k_is)
    (case pgF => k_is)
    (case hdF => k_is)
    (case poF => k_is)
    (case saF => k_is)
    (case mkF => k_is)
    (case kcF => k_is)
    (case aFI => k_is)
    (case iFI => k_is)
    (case lFI => k_is)
    (case cFI => k_is)
    (case kFI => k_is)
    (case aFL => k_is)
    (case iFL => k_is)
    (case lFL => k_is)
    (case cFL => k_is)
    (case kFL => k_is)
    (case aFM => k_is)
    (case iFM => k_is)
    (case lFM => k_is)
    (case cFM => k_is)
    (case kFM => k_is)
    (case nFtie => k_is)
    (case nFwithout => k_is)
    (case nFwithin => k_is)
