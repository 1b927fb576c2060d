import PyProof.Rows.All
import Wide.All
import OpenK.AllK
import Wide.FinOn
import Lean
import PyProof.EqAt
import PyProof.EqKinds
import PyProof.TupleCall
import KE.KIsAll
import PyProof.DictItems
import KE.KPairComp
import KE.KSortTup
import KE.IntBitsLaws
import KE.KRevIter
import PySem.Challenge.RW_manycounts_k84_drawings_and_lands
set_option Elab.async false
set_option linter.all false
set_option maxRecDepth 100000
set_option maxHeartbeats 4000000
namespace L2
open PySem PySem.Spec PyProof.Rows
abbrev Key := Sum Int Str
def keyIs : Key -> Value -> Bool
  | .inl k, v => Value.isInt k v
  | .inr x, v => Value.isStrOf x v
def keyH (w : World) : Key -> Int
  | .inl k => hashInt k
  | .inr x => hashStr w x
theorem keyIs_shape : ∀ {k : Key} {v : Value}, keyIs k v = true -> (∃ i t, k = Sum.inl i /\ v = Value.int i t) \/ (∃ x t, k = Sum.inr x /\ v = Value.str x t)
  | .inl i, v, h => by
    obtain ⟨t, e⟩ := Value.isInt_shape (k := i) (v := v) h
    exact .inl ⟨i, t, rfl, e⟩
  | .inr x, v, h => by
    obtain ⟨t, e⟩ := Value.isStrOf_shape (x := x) (v := v) h
    exact .inr ⟨x, t, rfl, e⟩
theorem keyIs_int (i : Int) (t : Tok) : keyIs (.inl i) (.int i t) = true := by simp [keyIs, Value.isInt]
theorem keyIs_str (x : Str) (t : Tok) : keyIs (.inr x) (.str x t) = true := by simp [keyIs, Value.isStrOf]
theorem key_ll (a b : Int) : decide ((Sum.inl a : Key) = Sum.inl b) = (a == b) := by
  by_cases e : a = b
  · subst e; simp
  · have h : ¬ (Sum.inl a : Key) = Sum.inl b := fun q => e (Sum.inl.inj q)
    rw [decide_eq_false h]
    exact (beq_eq_false_iff_ne.mpr e).symm
theorem key_rr (a b : Str) : decide ((Sum.inr a : Key) = Sum.inr b) = decide (a = b) := by
  by_cases e : a = b
  · subst e; simp
  · have h : ¬ (Sum.inr a : Key) = Sum.inr b := fun q => e (Sum.inr.inj q)
    rw [decide_eq_false h, decide_eq_false e]
theorem key_lr (a : Int) (b : Str) : decide ((Sum.inl a : Key) = Sum.inr b) = false := decide_eq_false (fun q => nomatch q)
theorem key_rl (a : Str) (b : Int) : decide ((Sum.inr a : Key) = Sum.inl b) = false := decide_eq_false (fun q => nomatch q)
def mixKind (prog : Program) (w : World) : PySem.KeyKind prog w Key where
  is := keyIs
  hash := keyH w
  inj := fun v a b ha hb => by
    rcases keyIs_shape ha with ⟨i, t, rfl, rfl⟩ | ⟨x, t, rfl, rfl⟩
    · rcases keyIs_shape hb with ⟨j, u, rfl, e⟩ | ⟨y, u, rfl, e⟩
      · injection e with e1 _; rw [e1]
      · exact nomatch e
    · rcases keyIs_shape hb with ⟨j, u, rfl, e⟩ | ⟨y, u, rfl, e⟩
      · exact nomatch e
      · injection e with e1 _; rw [e1]
  byValue := fun k v h => by
    rcases keyIs_shape h with ⟨i, t, rfl, rfl⟩ | ⟨x, t, rfl, rfl⟩ <;> rfl
  pyHash := fun hv h => by
    rcases keyIs_shape hv with ⟨i, t, rfl, rfl⟩ | ⟨x, t, rfl, rfl⟩
    · exact wpAny_pyHash_int h
    · exact wpAny_pyHash_str h
  eqBool := fun hu hv h => by
    rcases keyIs_shape hu with ⟨i, t, rfl, rfl⟩ | ⟨x, t, rfl, rfl⟩
    · rcases keyIs_shape hv with ⟨j, u, rfl, rfl⟩ | ⟨y, u, rfl, rfl⟩
      · rw [key_ll] at h; exact wpAny_eqBool_int h
      · rw [key_lr] at h; exact SeqAt.EqAt.int_str i t y u _ _ _ _ h
    · rcases keyIs_shape hv with ⟨j, u, rfl, rfl⟩ | ⟨y, u, rfl, rfl⟩
      · rw [key_rl] at h; exact SeqAt.EqAt.str_int x t j u _ _ _ _ h
      · rw [key_rr] at h; exact wpAny_eqBool_str h
  «strs» := fun k x t v h => by
    rcases keyIs_shape h with ⟨i, u, rfl, e⟩ | ⟨y, u, rfl, e⟩
    · exact nomatch e
    · injection e with e1 _
      subst e1
      cases v <;> rfl
theorem mixKind_int (prog : Program) (w : World) (i : Int) (t : Tok) : (mixKind prog w).is (.inl i) (.int i t) = true := keyIs_int i t
theorem mixKind_str (prog : Program) (w : World) (x : Str) (t : Tok) : (mixKind prog w).is (.inr x) (.str x t) = true := keyIs_str x t
inductive V where
  | non | bl (b : Bool) | int (i : Int) | str (x : Str) | byt (b : Array UInt8) | flt (b : UInt64) | ref (a : Addr) | ty (n : String)
  deriving DecidableEq
def RelV : V -> Value -> Prop
  | .non, u => u = Value.none
  | .bl b, u => u = Value.bool b
  | .int i, u => ∃ t, u = Value.int i t
  | .str x, u => ∃ t, u = Value.str x t
  | .byt b, u => ∃ t, u = Value.bytes b t
  | .flt b, u => ∃ t, u = Value.float b t
  | .ref a, u => u = Value.ref a
  | .ty n, u => u = Value.type n
abbrev Vals : List V -> List Value -> Prop := Paired RelV
theorem Vals.length {xs : List V} {us : List Value} (r : Vals xs us) : xs.length = us.length := Paired.length r
theorem Vals.get : ∀ {xs : List V} {us : List Value} {i : Nat} {x : V}, Vals xs us -> xs[i]? = some x -> ∃ u, us[i]? = some u /\ RelV x u
  | _, _, _, _, .nil, e => by simp at e
  | _, _, 0, _, .cons r _, e => by simp at e; subst e; exact ⟨_, rfl, r⟩
  | _, _, i + 1, x, .cons _ t, e => by
    obtain ⟨u, h1, h2⟩ := Vals.get (i := i) (x := x) t (by simpa using e)
    exact ⟨u, by simpa using h1, h2⟩
theorem Vals.set {x : V} {u : Value} (r : RelV x u) : ∀ {xs : List V} {us : List Value} (i : Nat), Vals xs us -> Vals (xs.set i x) (us.set i u)
  | _, _, _, .nil => .nil
  | _, _, 0, .cons _ t => .cons r t
  | _, _, i + 1, .cons q t => .cons q (Vals.set r i t)
theorem Vals.append : ∀ {xs ys : List V} {us ws : List Value}, Vals xs us -> Vals ys ws -> Vals (xs ++ ys) (us ++ ws)
  | _, _, _, _, .nil, s => s
  | _, _, _, _, .cons r t, s => .cons r (Vals.append t s)
theorem Vals.take : ∀ {xs : List V} {us : List Value} (n : Nat), Vals xs us -> Vals (xs.take n) (us.take n)
  | _, _, 0, _ => .nil
  | _, _, _ + 1, .nil => .nil
  | _, _, n + 1, .cons r t => .cons r (Vals.take n t)
theorem Vals.drop : ∀ {xs : List V} {us : List Value} (n : Nat), Vals xs us -> Vals (xs.drop n) (us.drop n)
  | _, _, 0, r => r
  | _, _, _ + 1, .nil => .nil
  | _, _, n + 1, .cons _ t => Vals.drop n t
def RelO : Option V -> Option Value -> Prop
  | some v, some u => RelV v u
  | none, none => True
  | _, _ => False
def KV {κ : Type} : List (κ × V) -> List (κ × Value) -> Prop := Paired fun (p : κ × V) (q : κ × Value) => p.1 = q.1 /\ RelV p.2 q.2
def kV : Key -> V
  | .inl i => .int i
  | .inr x => .str x
inductive HO where
    | lst (xs : List V)
    | tup (xs : List V)
    | dK (kvs : List (Key × V)) | dT (kvs : List (List Key × V))
    | set (S : Int -> Bool) (n : Nat)
    | ins (C dx : Addr) (fs : List (Str × V))
    | own (x : Addr)
    | xd (fs : List (Str × V))
    | met (f x : Addr)
    | rng (lo hi : Int)
    | frz (o : Obj) (u : HO)
    | tbl (ps : Array Value)
    | ext (φ : Heap -> Prop)
abbrev Hp := Addr -> Option HO
def upd (H : Hp) (a : Addr) (o : HO) : Hp := fun b => if b = a then some o else H b
theorem upd_same {H : Hp} {a : Addr} {o : HO} : upd H a o a = some o := by unfold upd; rw [if_pos rfl]
theorem upd_ne {H : Hp} {a b : Addr} {o : HO} (h : b ≠ a) : upd H a o b = H b := by unfold upd; rw [if_neg h]
theorem ne_of {H : Hp} {a b : Addr} {o u : HO} (h : H a = some o) (h' : H b = some u) (d : o ≠ u) : a ≠ b := by
  intro e; subst e; rw [h] at h'; exact d (Option.some.inj h')
theorem ne_of_none {H : Hp} {a b : Addr} {o : HO} (h : H a = some o) (h' : H b = none) : a ≠ b := by
  intro e; subst e; rw [h] at h'; cases h'
section
variable (P : Program) (w : World)
def ObjOk (H : Hp) (h : Heap) (a : Addr) : HO -> Prop
  | .lst xs => xs.length <= sizeLine /\ ∃ (its : List Value) (n : Nat), Vals xs its /\ h.get? a = some { cls := .type "list", data := .seq its.toArray n }
  | .tup xs => xs.length <= sizeLine /\ ∃ its : List Value, Vals xs its /\ IsTup h a its.toArray
  | .dK kvs => kvs.length <= sizeLine /\ (a == sysModules) = false /\ ∃ vs, KV kvs vs /\ h.DictOf (mixKind P w) a vs
  | .dT kvs => kvs.length <= sizeLine /\ (a == sysModules) = false /\ ∃ xs : List (List Key × Addr × Value),
      Paired (fun (p : List Key × V) (q : List Key × Addr × Value) => p.1 = q.1 /\ H q.2.1 = some (.tup (p.1.map kV)) /\ RelV p.2 q.2.2) kvs xs /\
      ∃ o es ep, h.get? a = some o /\ o.ExactDict /\ o.data = .dict es ep /\ es.toList = xs.map (entryOfKey (tupleKind (mixKind P w))) /\ (xs.map (·.1)).Nodup
  | .set S n => h.SetOf (intKind P w) a S n
  | .ins C dx fs => H dx = some (.own a) /\ fs.length <= 1000 /\ dx ≠ a /\ h.get? a = some (PySem.W.instObj C dx) /\
      ∃ mA, h.Ns1 dx mA /\ (∀ f, RelO (fs.lookup f) (mA f)) /\ PySem.Within mA (fs.map (·.1))
  | .own _ => ∃ o, h.get? a = some o
  | .xd fs => ∃ mA, h.Ns1 a mA /\ ∀ f, RelO (fs.lookup f) (mA f)
  | .rng lo hi => ∃ t u v, h.get? a = some { cls := .type "range", data := .fields #[.int lo t, .int hi u, .int 1 v] }
  | .frz o u => h.get? a = some o /\ ObjOk H h a u
  | .tbl ps => h.get? a = some { cls := .none, data := .fields ps }
  | .met f x => h.get? a = some (PySem.W.methodObj (.ref f) (.ref x))
  | .ext φ => φ h /\ (∃ o, h.get? a = some o) /\ ∀ h1 h2 : Heap, φ h1 -> (∀ o, h1.get? a = some o -> h2.get? a = some o) -> φ h2
def HOk (H : Hp) (h : Heap) : Prop := ∀ a o, H a = some o -> ObjOk P w H h a o
end
section
variable {P : Program} {w : World} {H H' : Hp} {h h' : Heap} {a : Addr} {o : HO}
theorem ObjOk.lt (x : ObjOk P w H h a o) : a < h.objs.size := by
  cases o with
  | lst xs => obtain ⟨_, _, _, _, e⟩ := x; exact Heap.lt_size e
  | tup xs => obtain ⟨_, _, _, p⟩ := x; exact p.lt
  | dK kvs => obtain ⟨_, _, _, _, o, _, _, e, _⟩ := x; exact Heap.lt_size e
  | dT kvs => obtain ⟨_, _, _, _, o, _, _, e, _⟩ := x; exact Heap.lt_size e
  | set S n => obtain ⟨o, _, _, _, e, _⟩ := x; exact Heap.lt_size e
  | ins C dx fs => obtain ⟨_, _, _, e, _⟩ := x; exact Heap.lt_size e
  | own y => obtain ⟨_, e⟩ := x; exact Heap.lt_size e
  | xd fs => obtain ⟨_, ⟨_, _, _, e, _⟩, _⟩ := x; exact Heap.lt_size e
  | rng lo hi => obtain ⟨_, _, _, e⟩ := x; exact Heap.lt_size e
  | frz ob u => obtain ⟨e, _⟩ := x; exact Heap.lt_size e
  | tbl ps => exact Heap.lt_size (show h.get? a = some _ from x)
  | met f y => exact Heap.lt_size (show h.get? a = some _ from x)
  | ext φ => obtain ⟨_, ⟨_, e⟩, _⟩ := x; exact Heap.lt_size e
theorem Paired.mapP {α β : Type} {F G : α -> β -> Prop} : ∀ {l₁ : List α} {l₂ : List β}, Paired F l₁ l₂ -> (∀ a b, F a b -> G a b) -> Paired G l₁ l₂
  | _, _, .nil, _ => .nil
  | _, _, .cons r t, f => .cons (f _ _ r) (Paired.mapP t f)
theorem ObjOk.stay (x : ObjOk P w H h a o) (k : ∀ b u, (b = a \/ H b = some (.own a)) -> h.get? b = some u -> h'.get? b = some u)
    (ho : ∀ b, H b = some (.own a) -> H' b = some (.own a)) (ht : ∀ b xs, H b = some (.tup xs) -> H' b = some (.tup xs)) : ObjOk P w H' h' a o := by
  induction o with
  | lst xs => obtain ⟨z, its, n, r, e⟩ := x; exact ⟨z, its, n, r, k _ _ (.inl rfl) e⟩
  | tup xs => obtain ⟨z, its, r, ob, e, c⟩ := x; exact ⟨z, its, r, ob, k _ _ (.inl rfl) e, c⟩
  | dK kvs => obtain ⟨z, y, vs, r, ob, es, ep, e, c⟩ := x; exact ⟨z, y, vs, r, ob, es, ep, k _ _ (.inl rfl) e, c⟩
  | dT kvs =>
    obtain ⟨z, y, xs, r, ob, es, ep, e, c⟩ := x
    exact ⟨z, y, xs, Paired.mapP r fun p q z => ⟨z.1, ht _ _ z.2.1, z.2.2⟩, ob, es, ep, k _ _ (.inl rfl) e, c⟩
  | set S n => obtain ⟨ob, es, ep, t, e, c⟩ := x; exact ⟨ob, es, ep, t, k _ _ (.inl rfl) e, c⟩
  | ins C dx fs =>
    obtain ⟨d, z, ne, e, mA, ⟨od, es, ep, e2, c⟩, r⟩ := x
    exact ⟨ho _ d, z, ne, k _ _ (.inl rfl) e, mA, ⟨od, es, ep, k _ _ (.inr d) e2, c⟩, r⟩
  | own y => obtain ⟨ob, e⟩ := x; exact ⟨ob, k _ _ (.inl rfl) e⟩
  | xd fs => obtain ⟨mA, ⟨od, es, ep, e, c⟩, r⟩ := x; exact ⟨mA, ⟨od, es, ep, k _ _ (.inl rfl) e, c⟩, r⟩
  | rng lo hi => obtain ⟨t, u, v, e⟩ := x; exact ⟨t, u, v, k _ _ (.inl rfl) e⟩
  | frz ob u ih => obtain ⟨e, q⟩ := x; exact ⟨k _ _ (.inl rfl) e, ih q⟩
  | tbl ps =>
    have e : h.get? a = some { cls := .none, data := .fields ps } := x
    show h'.get? a = some { cls := .none, data := .fields ps }
    exact k a _ (.inl rfl) e
  | met f y =>
    have e : h.get? a = some (PySem.W.methodObj (.ref f) (.ref y)) := x
    show h'.get? a = some (PySem.W.methodObj (.ref f) (.ref y))
    exact k a _ (.inl rfl) e
  | ext φ => obtain ⟨p, ⟨o, e⟩, st⟩ := x; exact ⟨st _ _ p fun o q => k _ _ (.inl rfl) q, ⟨o, k _ _ (.inl rfl) e⟩, st⟩
theorem HOk.lt (x : HOk P w H h) (e : H a = some o) : a < h.objs.size := (x a o e).lt
theorem HOk.fresh (x : HOk P w H h) (e : h.objs.size <= a) : H a = none := by
  cases q : H a with
  | none => rfl
  | some u => exact absurd (Nat.lt_of_lt_of_le (x.lt q) e) (Nat.lt_irrefl _)
theorem HOk.kept (x : HOk P w H h) (k : ∀ b u, h.get? b = some u -> h'.get? b = some u) : HOk P w H h' := fun a o e =>
  (x a o e).stay (fun b u _ q => k b u q) (fun _ q => q) fun _ _ q => q
theorem HOk.laid (x : HOk P w H h) (k : ∀ b u, h.get? b = some u -> h'.get? b = some u) (hp : h.objs.size <= a) (new : ObjOk P w (upd H a o) h' a o) : HOk P w (upd H a o) h' := fun b u e => by
  have hn := x.fresh hp
  by_cases hb : b = a
  · subst hb; rw [upd_same] at e; cases e; exact new
  · rw [upd_ne hb] at e
    exact (x b u e).stay (fun c v _ q => k c v q) (fun c q => by rw [upd_ne (ne_of_none q hn)]; exact q) fun c xs q => by rw [upd_ne (ne_of_none q hn)]; exact q
end
def Rd (H : Hp) (a : Addr) (u : HO) : Prop := H a = some u \/ ∃ o, H a = some (.frz o u)
theorem Rd.ok {P : Program} {w : World} {H : Hp} {h : Heap} {a : Addr} {u : HO} (r : Rd H a u) (x : HOk P w H h) : ObjOk P w H h a u := by
  rcases r with r | ⟨o, r⟩
  · exact x a u r
  · obtain ⟨_, q⟩ := x a _ r
    exact q
def Mut : Option HO -> Prop
  | some (.lst _) => True
  | some (.dK _) => True
  | some (.dT _) => True
  | some (.set _ _) => True
  | some (.ins _ _ _) => True
  | some (.ext _) => True
  | _ => False
section
variable {P : Program} {w : World} {H : Hp} {h h' : Heap} {x e : Addr} {o' : HO}
theorem HOk.write (ok : HOk P w H h) (mu : Mut (H x)) (he : e = x \/ H e = some (.own x)) (k : ∀ b u, b ≠ e -> h.get? b = some u -> h'.get? b = some u) (heo : ∃ u, h'.get? e = some u)
    (new : ObjOk P w (upd H x o') h' x o') : HOk P w (upd H x o') h' := fun b u q => by
  have nown : ∀ c y, H c = some (.own y) -> c ≠ x := fun c y r z => by subst z; rw [r] at mu; exact mu
  have ntup : ∀ c xs, H c = some (.tup xs) -> c ≠ x := fun c xs r z => by subst z; rw [r] at mu; exact mu
  by_cases hb : b = x
  · subst hb; rw [upd_same] at q; cases q; exact new
  · rw [upd_ne hb] at q
    by_cases hbe : b = e
    · have q' : H b = some (.own x) := by
        rcases he with z | z
        · exact absurd (hbe.trans z) hb
        · rw [hbe]; exact z
      rw [q] at q'; cases q'
      obtain ⟨v, hv⟩ := heo
      exact ⟨v, by rw [hbe]; exact hv⟩
    · refine (ok b u q).stay (fun c v hc r => k c v ?_ r) (fun c r => by rw [upd_ne (nown c b r)]; exact r) fun c xs r => by rw [upd_ne (ntup c xs r)]; exact r
      rcases hc with rfl | hc
      · exact hbe
      · rintro rfl
        rcases he with z | z
        · exact nown c b hc z
        · rw [hc] at z; cases z; exact hb rfl
end
structure Un (fs ex : List Addr) (H H' : Hp) (h h' : Heap) : Prop where
  keep : ∀ b o, h.get? b = some o -> H b = none -> b ∉ fs -> b ∉ ex -> h'.get? b = some o
  slot : ∀ b o, h.get? b = some o -> H b = none -> b ∈ fs -> b ∉ ex -> ∃ sl, h'.get? b = some { o with slots := sl }
  free : ∀ b o, h.get? b = some o -> H b = none -> b ∉ ex -> H' b = none
  there : ∀ b o, h.get? b = some o -> b ∉ ex -> ∃ o', h'.get? b = some o'
  tups : ∀ b xs, H b = some (.tup xs) -> H' b = some (.tup xs)
  frzs : ∀ b o u, H b = some (.frz o u) -> H' b = some (.frz o u)
  tbls : ∀ b ps, H b = some (.tbl ps) -> ∃ more, H' b = some (.tbl (ps ++ more))
section
variable {fs fs' ex ex' : List Addr} {H H1 H2 : Hp} {h h1 h2 h' : Heap} {a x e : Addr} {o : HO}
theorem Un.any (u : Un fs ex H H1 h h1) {b : Addr} {ob : Obj} (q : h.get? b = some ob) (n : H b = none) (hx : b ∉ ex) : ∃ sl, h1.get? b = some { ob with slots := sl } := by
  by_cases hb : b ∈ fs
  · exact u.slot b ob q n hb hx
  · exact ⟨ob.slots, u.keep b ob q n hb hx⟩
theorem Un.kept (k : ∀ b u, h.get? b = some u -> h'.get? b = some u) : Un fs ex H H h h' :=
  ⟨fun b ob q _ _ _ => k b ob q, fun b ob q _ _ _ => ⟨ob.slots, k b ob q⟩, fun _ _ _ n _ => n, fun b ob q _ => ⟨ob, k b ob q⟩, fun _ _ q => q, fun _ _ _ q => q, fun _ ps q => ⟨#[], by rw [q]; simp⟩⟩
theorem Un.refl : Un fs ex H H h h := Un.kept fun _ _ q => q
theorem Un.laid (k : ∀ b u, h.get? b = some u -> h'.get? b = some u) (hp : h.objs.size <= a) (hn : H a = none) : Un fs ex H (upd H a o) h h' where
  keep := fun b u q _ _ _ => k b u q
  slot := fun b u q _ _ _ => ⟨u.slots, k b u q⟩
  free := fun b u q n _ => by rw [upd_ne (Nat.ne_of_lt (Nat.lt_of_lt_of_le (Heap.lt_size q) hp))]; exact n
  there := fun b u q _ => ⟨u, k b u q⟩
  tups := fun b xs q => by rw [upd_ne (ne_of_none q hn)]; exact q
  frzs := fun b u xs q => by rw [upd_ne (ne_of_none q hn)]; exact q
  tbls := fun b ps q => ⟨#[], by rw [upd_ne (ne_of_none q hn), q]; simp⟩
theorem Un.write (mu : Mut (H x)) (he : e = x \/ H e = some (.own x)) (k : ∀ b u, b ≠ e -> h.get? b = some u -> h'.get? b = some u) (heo : ∃ u, h'.get? e = some u) : Un fs ex H (upd H x o) h h' := by
  have hx : ∀ b, H b = none -> b ≠ x := fun b n z => by subst z; rw [n] at mu; exact mu
  have hb : ∀ b, H b = none -> b ≠ e := fun b n z => by
    subst z
    rcases he with r | r
    · exact hx b n r
    · rw [n] at r; cases r
  have hm : ∀ b u, H b = some u -> ¬ Mut (some u) -> b ≠ x := fun b u q nm z => by subst z; rw [q] at mu; exact nm mu
  refine ⟨fun b u q n _ _ => k b u (hb b n) q, fun b u q n _ _ => ⟨u.slots, k b u (hb b n) q⟩, fun b u q n _ => by rw [upd_ne (hx b n)]; exact n, fun b u q _ => ?_,
    fun b xs q => by rw [upd_ne (hm b _ q fun z => z)]; exact q, fun b u xs q => by rw [upd_ne (hm b _ q fun z => z)]; exact q, fun b ps q => ⟨#[], by rw [upd_ne (hm b _ q fun z => z), q]; simp⟩⟩
  by_cases hbe : b = e
  · subst hbe; exact heo
  · exact ⟨u, k b u hbe q⟩
end
def trk (h : Heap) (H : Hp) : List Addr := (List.range h.objs.size).filter fun a => (H a).isSome
def hidT (h : Heap) (H : Hp) : Heap := PySem.W.hideAll h (trk h H)
theorem hidT_size (h : Heap) (H : Hp) : (hidT h H).objs.size = h.objs.size := PySem.W.hideAll_size _ _
theorem hidT_get {h : Heap} {H : Hp} {b : Addr} {o : Obj} (e : h.get? b = some o) (n : H b = none) : (hidT h H).get? b = some o :=
  PySem.W.hideAll_get _ e fun hm => by
    have q : (H b).isSome = true := (List.mem_filter.mp hm).2
    rw [n] at q; simp at q
theorem of_hidT {h : Heap} {H : Hp} {b : Addr} {o : Obj} (e : (hidT h H).get? b = some o) : h.get? b = some o /\ H b = none := by
  have e' : h.get? b = some o := PySem.W.of_hideAll (trk h H) e
  refine ⟨e', ?_⟩
  cases q : H b with
  | none => rfl
  | some x =>
    have hm : b ∈ trk h H := List.mem_filter.mpr ⟨List.mem_range.mpr (Heap.lt_size e'), by simp [q]⟩
    have z : (hidT h H).get? b = none := PySem.W.hideAll_none (trk h H) hm
    rw [z] at e; cases e
def allNews (g h : Heap) (L : Addr) : List (Addr × Obj) := (List.range h.objs.size).filterMap fun a => if a = L \/ (g.get? a).isSome = true then none else (h.get? a).map fun o => (a, o)
def rest (g h : Heap) (L d : Addr) : List (Addr × Obj) := (allNews g h L).filter fun p => decide (p.1 ≠ d)
structure Mod (K : PySem.W.Frag) (mg : Str -> Option Value) (base : Heap) : Prop where
  kin : K.In base
  glob : base.Ns mainGlobals mg
  blt : ∃ mb, base.Ns builtinsNs mb /\ ∀ x : Str, x ≠ "__name__" -> mb x = bootBuiltins x
  nolimit : base.NoLimit
structure Cx where
  prog : Program
  w : World
  K : PySem.W.Frag
  mg : Str -> Option Value
  base : Heap
  A : Around
  N : List Str
  s₀ : Shared
  H₀ : Hp
  env : Env
  outer : List Env
  stack : List Env
  ex : List Addr
  fn : Str -> Bool
  calm : Bool
  pn : List (Addr × Obj)
  xe : Value -> Shared -> Prop
def frs (l : List Env) : List Addr := l.filterMap (·.frame)
abbrev Cx.fs (X : Cx) : List Addr := frs X.outer
def Vis (sc : Scope) (x : Str) : Prop := sc.names.lookup x = some .local \/ sc.names.lookup x = some .cell \/ sc.names.lookup x = some .free
def Loc (sc : Scope) (x : Str) : Prop := sc.names.lookup x = some .local \/ sc.names.lookup x = some .cell
def Look (env : Env) (h : Heap) (m : Str -> Option Value) (x : Str) (u : Value) : Prop :=
  (env.kindOf x = some .local /\ m x = some u) \/ ((env.kindOf x = some .cell \/ env.kindOf x = some .free) /\ ∃ c, env.cells.lookup x = some c /\ h.IsCell c (some u))
structure Cx.Ok (X : Cx) : Prop where
  mod : Mod X.K X.mg X.base
  kind : X.env.scope.kind = .function
  glob : X.env.globals = mainGlobals
  blt : X.env.builtins = builtinsNs
  above : X.s₀.heap.objs.size <= X.env.locals
  inj : ∀ x y c, X.env.cells.lookup x = some c -> X.env.cells.lookup y = some c -> x = y
  has : ∀ x, (X.env.kindOf x = some .cell \/ X.env.kindOf x = some .free) -> ∃ c, X.env.cells.lookup x = some c
  cab : ∀ x c, X.fn x = true -> X.env.cells.lookup x = some c -> X.s₀.heap.objs.size <= c
  hd : X.calm = true -> X.A.handled = none
  frames : X.A.frames = some X.stack
  stk : X.stack = X.outer \/ (X.stack = X.env :: X.outer /\ X.env.frame = some X.env.locals)
  exf : ∀ b ∈ X.ex, b ≠ X.env.locals /\ ∀ x c, X.env.cells.lookup x = some c -> c ≠ b
  bs : ∀ b o, X.base.get? b = some o -> X.s₀.heap.get? b = some o /\ X.H₀ b = none
  bsz : X.base.objs.size <= X.s₀.heap.objs.size
  noex : ∀ b o, X.base.get? b = some o -> b ∉ X.ex
  exfs : ∀ b ∈ X.ex, b ∉ X.fs
  funs : X.s₀.heap.FunFrames X.base X.outer
  frf : ∀ b ∈ X.fs, X.H₀ b = none
structure Inv (X : Cx) (pins : List (Addr × Obj)) (σ : List (Option V)) (H : Hp) (s : Shared) : Prop where
  ok : X.Ok
  os : s.os = X.s₀.os
  bare : AllBare s.gens
  base : Un X.fs X.ex X.H₀ H X.s₀.heap s.heap
  loc : ∃ m, s.heap.Ns X.env.locals m /\ ∀ (i : Nat) (x : Str) (v : V), X.N[i]? = some x -> σ[i]? = some (some v) -> Vis X.env.scope x -> ∃ u, RelV v u /\ Look X.env s.heap m x u
  cell : ∀ x c, X.env.cells.lookup x = some c -> ∃ v, s.heap.IsCell c v
  free : H X.env.locals = none
  freeC : ∀ x c, X.env.cells.lookup x = some c -> H c = none
  pin : ∀ p ∈ X.pn ++ pins, s.heap.get? p.1 = some p.2 /\ H p.1 = none /\ p.1 ≠ X.env.locals /\ p.1 ∉ X.fs /\ ∀ v, p.2.data ≠ .cell v
  hok : HOk X.prog X.w H s.heap
  len : σ.length = X.N.length
section
variable {X : Cx} {pins : List (Addr × Obj)} {σ : List (Option V)} {H H' : Hp} {s : Shared} {h' : Heap}
theorem Cx.Ok.nofr (ok : X.Ok) {b : Addr} {o : Obj} (e : X.base.get? b = some o) : b ∉ X.fs := fun hb => by
  have := (ok.funs.mem hb).1
  rw [e] at this; cases this
theorem Inv.bs (I : Inv X pins σ H s) : ∀ b o, X.base.get? b = some o -> s.heap.get? b = some o /\ H b = none := fun b o e =>
  ⟨I.base.keep b o (I.ok.bs b o e).1 (I.ok.bs b o e).2 (I.ok.nofr e) (I.ok.noex b o e), I.base.free b o (I.ok.bs b o e).1 (I.ok.bs b o e).2 (I.ok.noex b o e)⟩
theorem Inv.bk (I : Inv X pins σ H s) : ∀ b o, X.base.get? b = some o -> s.heap.get? b = some o := fun b o e => (I.bs b o e).1
theorem Inv.mod (I : Inv X pins σ H s) : Mod X.K X.mg X.base := I.ok.mod
theorem Inv.kIn (I : Inv X pins σ H s) : X.K.In s.heap := I.ok.mod.kin.keeps I.bk
theorem Inv.lt (I : Inv X pins σ H s) : X.env.locals < s.heap.objs.size := let ⟨_, hn, _⟩ := I.loc; hn.lt
theorem Inv.sz (I : Inv X pins σ H s) : X.s₀.heap.objs.size <= s.heap.objs.size := Nat.le_trans I.ok.above (Nat.le_of_lt I.lt)
theorem Inv.nofs (I : Inv X pins σ H s) {a : Addr} (h : s.heap.objs.size <= a) : a ∉ X.fs := fun hb => by
  obtain ⟨_, o, ho, _⟩ := I.ok.funs.mem hb
  exact absurd (Nat.lt_of_lt_of_le (Heap.lt_size ho) (Nat.le_trans I.sz h)) (Nat.lt_irrefl _)
theorem Inv.cne (I : Inv X pins σ H s) : ∀ x c, X.env.cells.lookup x = some c -> c ≠ X.env.locals := fun x c e z => by
  obtain ⟨v, o, ho, hd⟩ := I.cell x c e
  obtain ⟨m, ⟨o', es, ep, ho', hd', _⟩, _⟩ := I.loc
  rw [z, ho'] at ho; cases ho; rw [hd'] at hd; cases hd
theorem Inv.funs (I : Inv X pins σ H s) : s.heap.FunFrames X.base X.outer := by
  have all : ∀ (l : List Env), (∀ b ∈ frs l, b ∈ X.fs) -> X.s₀.heap.FunFrames X.base l -> s.heap.FunFrames X.base l := by
    intro l
    induction l with
    | nil => intro _ _; trivial
    | cons env r ih =>
      intro hs hl
      obtain ⟨hk, ⟨L, o, hf, hn, ho, hd⟩, hr⟩ := hl
      have hL : L ∈ X.fs := hs L (by unfold frs; rw [List.filterMap_cons, hf]; exact List.mem_cons_self)
      obtain ⟨sl, e⟩ := I.base.slot L o ho (I.ok.frf L hL) hL fun z => I.ok.exfs L z hL
      exact ⟨hk, ⟨L, _, hf, hn, e, hd⟩, ih (fun b hb => hs b (by unfold frs; rw [List.filterMap_cons, hf]; exact List.mem_cons_of_mem _ hb)) hr⟩
  exact all X.outer (fun _ hb => hb) I.ok.funs
theorem Inv.stack (I : Inv X pins σ H s) : s.heap.FunFrames X.base X.stack := by
  rcases I.ok.stk with e | ⟨e, hf⟩
  · rw [e]; exact I.funs
  · rw [e]
    obtain ⟨m, hn, _⟩ := I.loc
    refine .cons (by rw [I.ok.kind]; decide) hf hn ?_ I.funs
    exact Heap.get?_none_of_le (Nat.le_trans I.ok.bsz I.ok.above)
theorem Inv.stkSub (I : Inv X pins σ H s) : ∀ b ∈ frs X.stack, b ∈ X.env.locals :: X.fs := fun b hb => by
  rcases I.ok.stk with e | ⟨e, hf⟩
  · rw [e] at hb; exact List.mem_cons_of_mem _ hb
  · rw [e] at hb
    unfold frs at hb
    rw [List.filterMap_cons, hf] at hb
    exact hb
theorem Inv.stkFree (I : Inv X pins σ H s) : ∀ b ∈ frs X.stack, H b = none := fun b hb => by
  rcases List.mem_cons.mp (I.stkSub b hb) with e | hb
  · rw [e]; exact I.free
  · obtain ⟨_, o, ho, _⟩ := I.ok.funs.mem hb
    exact I.base.free b o ho (I.ok.frf b hb) fun z => I.ok.exfs b z hb
theorem Inv.step {g' : Array GenState} {t' : Nat} {d' : Drawn} {ch : List Addr} (I : Inv X pins σ H s)
    (hch : ∀ b ∈ ch, (b ∈ X.ex \/ X.s₀.heap.objs.size <= b) /\ b ≠ X.env.locals /\ (∀ x c, X.env.cells.lookup x = some c -> c ≠ b) /\ ∀ p ∈ X.pn ++ pins, p.1 ≠ b)
    (keep : ∀ b o, b ≠ X.env.locals -> b ∉ X.fs -> b ∉ ch -> s.heap.get? b = some o -> H b = none -> h'.get? b = some o)
    (slot : ∀ b o, b ≠ X.env.locals -> b ∈ X.fs -> b ∉ ch -> s.heap.get? b = some o -> H b = none -> ∃ sl, h'.get? b = some { o with slots := sl }) (free : ∀ b o, b ∉ ch -> s.heap.get? b = some o -> H b = none -> H' b = none)
    (there : ∀ b o, b ∉ ch -> s.heap.get? b = some o -> ∃ o', h'.get? b = some o')
    (tups : ∀ b xs, H b = some (.tup xs) -> H' b = some (.tup xs)) (frzs : ∀ b o u, H b = some (.frz o u) -> H' b = some (.frz o u)) (tbls : ∀ b ps, H b = some (.tbl ps) -> ∃ more, H' b = some (.tbl (ps ++ more)))
    (ns : ∀ m, s.heap.Ns X.env.locals m -> h'.Ns X.env.locals m) (hok : HOk X.prog X.w H' h') (hg : AllBare g') :
    Inv X pins σ H' { s with heap := h', gens := g', drawn := d', toks := t' } := by
  have neL : ∀ b o, X.s₀.heap.get? b = some o -> b ≠ X.env.locals := fun b o e => Nat.ne_of_lt (Nat.lt_of_lt_of_le (Heap.lt_size e) I.ok.above)
  have neC : ∀ b o, X.s₀.heap.get? b = some o -> b ∉ X.ex -> b ∉ ch := fun b o e hx hb => by
    rcases (hch b hb).1 with z | z
    · exact hx z
    · exact absurd (Nat.lt_of_lt_of_le (Heap.lt_size e) z) (Nat.lt_irrefl _)
  have cellK : ∀ x c, X.env.cells.lookup x = some c -> ∀ v, s.heap.IsCell c v -> h'.IsCell c v := fun x c e v ⟨o, ho, hd⟩ => by
    have nch : c ∉ ch := fun z => (hch c z).2.2.1 x c e rfl
    by_cases hc : c ∈ X.fs
    · obtain ⟨sl, q⟩ := slot c o (I.cne x c e) hc nch ho (I.freeC x c e)
      exact ⟨_, q, hd⟩
    · exact ⟨o, keep c o (I.cne x c e) hc nch ho (I.freeC x c e), hd⟩
  refine ⟨I.ok, I.os, hg, ⟨fun b o e n hb hx => ?_, fun b o e n hb hx => ?_, fun b o e n hx => ?_, fun b o e hx => ?_, fun b xs e => tups b xs (I.base.tups b xs e), fun b o xs e => frzs b o xs (I.base.frzs b o xs e), fun b ps e => ?_⟩, ?_, fun x c e => ?_, ?_, fun x c e => ?_, fun p hp => ?_, hok, I.len⟩
  · exact keep b o (neL b o e) hb (neC b o e hx) (I.base.keep b o e n hb hx) (I.base.free b o e n hx)
  · obtain ⟨sl, e1⟩ := I.base.slot b o e n hb hx
    obtain ⟨sl', e2⟩ := slot b _ (neL b o e) hb (neC b o e hx) e1 (I.base.free b o e n hx)
    exact ⟨sl', e2⟩
  · obtain ⟨o', e1⟩ := I.base.there b o e hx
    exact free b o' (neC b o e hx) e1 (I.base.free b o e n hx)
  · obtain ⟨o', e1⟩ := I.base.there b o e hx
    exact there b o' (neC b o e hx) e1
  · obtain ⟨m1, e1⟩ := I.base.tbls b ps e
    obtain ⟨m2, e2⟩ := tbls b _ e1
    exact ⟨m1 ++ m2, by rw [e2, Array.append_assoc]⟩
  · obtain ⟨m, hn, hl⟩ := I.loc
    refine ⟨m, ns m hn, fun i x v e1 e2 e3 => ?_⟩
    obtain ⟨u, r, l⟩ := hl i x v e1 e2 e3
    refine ⟨u, r, ?_⟩
    rcases l with l | ⟨k, c, e, z⟩
    · exact .inl l
    · exact .inr ⟨k, c, e, cellK x c e _ z⟩
  · obtain ⟨v, z⟩ := I.cell x c e
    exact ⟨v, cellK x c e v z⟩
  · obtain ⟨m, ⟨o, _, _, ho, _⟩, _⟩ := I.loc
    exact free _ o (fun z => (hch _ z).2.1 rfl) ho I.free
  · obtain ⟨v, o, ho, hd⟩ := I.cell x c e
    exact free c o (fun z => (hch c z).2.2.1 x c e rfl) ho (I.freeC x c e)
  · obtain ⟨e, n, ne, nf, d⟩ := I.pin p hp
    have nch : p.1 ∉ ch := fun z => (hch p.1 z).2.2.2 p hp rfl
    exact ⟨keep p.1 p.2 ne nf nch e n, free p.1 p.2 nch e n, ne, nf, d⟩
theorem Inv.un {t' : Nat} (I : Inv X pins σ H s) (u : Un X.fs [] H H' s.heap h') (hok : HOk X.prog X.w H' h') : Inv X pins σ H' { s with heap := h', toks := t' } := by
  obtain ⟨m, ⟨o, es, ep, ho, r⟩, _⟩ := id I.loc
  obtain ⟨sl, hL⟩ := u.any ho I.free (by simp)
  exact I.step (g' := s.gens) (d' := s.drawn) (ch := []) (fun _ z => nomatch z) (fun b o _ hb _ e n => u.keep b o e n hb (by simp)) (fun b o _ hb _ e n => u.slot b o e n hb (by simp)) (fun b o _ e n => u.free b o e n (by simp)) (fun b o _ e => u.there b o e (by simp)) u.tups u.frzs u.tbls (fun m' hm => by
    obtain ⟨o', es', ep', ho', r'⟩ := hm
    rw [ho] at ho'; cases ho'
    exact ⟨_, es', ep', hL, r'⟩) hok I.bare
theorem Inv.call {g' : Array GenState} {t' : Nat} {d' : Drawn} {ch : List Addr} (I : Inv X pins σ H s) (u : Un (frs X.stack) ch H H' s.heap h') (hok : HOk X.prog X.w H' h') (hg : AllBare g')
    (hch : ∀ b ∈ ch, (b ∈ X.ex \/ X.s₀.heap.objs.size <= b) /\ b ≠ X.env.locals /\ (∀ x c, X.env.cells.lookup x = some c -> c ≠ b) /\ ∀ p ∈ X.pn ++ pins, p.1 ≠ b) :
    Inv X pins σ H' { s with heap := h', gens := g', drawn := d', toks := t' } := by
  obtain ⟨m, ⟨o, es, ep, ho, r⟩, _⟩ := id I.loc
  obtain ⟨sl, hL⟩ := u.any ho I.free fun z => (hch _ z).2.1 rfl
  exact I.step (ch := ch) hch (fun b o hL hb hc e n => u.keep b o e n (fun z => (List.mem_cons.mp (I.stkSub b z)).elim hL hb) hc) (fun b o _ _ hc e n => u.any e n hc) (fun b o hc e n => u.free b o e n hc) (fun b o hc e => u.there b o e hc) u.tups u.frzs u.tbls (fun m' hm => by
    obtain ⟨o', es', ep', ho', r'⟩ := hm
    rw [ho] at ho'; cases ho'
    exact ⟨_, es', ep', hL, r'⟩) hok hg
theorem Inv.turned {t' : Nat} {it : Addr} (I : Inv X pins σ H s) (k : ∀ b o, b ≠ it -> s.heap.get? b = some o -> h'.get? b = some o) (hn : H it = none) (hL : it ≠ X.env.locals)
    (h1 : it ∈ X.ex \/ X.s₀.heap.objs.size <= it) (h2 : ∀ x c, X.env.cells.lookup x = some c -> c ≠ it) (h3 : ∀ p ∈ X.pn ++ pins, p.1 ≠ it) : Inv X pins σ H { s with heap := h', toks := t' } := by
  have nit : ∀ b u, H b = some u -> b ≠ it := fun b u e z => by rw [z, hn] at e; cases e
  refine I.step (g' := s.gens) (d' := s.drawn) (ch := [it]) (fun b hb => ?_) (fun b o _ _ hc e _ => k b o (fun z => hc (by simp [z])) e) (fun b o _ _ hc e _ => ⟨o.slots, k b o (fun z => hc (by simp [z])) e⟩) (fun _ _ _ _ n => n)
    (fun b o hc e => ⟨o, k b o (fun z => hc (by simp [z])) e⟩) (fun _ _ e => e) (fun _ _ _ e => e) (fun b ps e => ⟨#[], by rw [e]; simp⟩) (fun m hm => ?_) (fun b u e => ?_) I.bare
  · have e : b = it := by simpa using hb
    subst e
    exact ⟨h1, hL, h2, h3⟩
  · obtain ⟨o, es, ep, ho, r⟩ := hm
    exact ⟨o, es, ep, k _ o (Ne.symm hL) ho, r⟩
  · refine (I.hok b u e).stay (fun c v hc q => k c v ?_ q) (fun _ q => q) fun _ _ q => q
    rcases hc with z | z
    · rw [z]; exact nit b u e
    · exact nit c _ z
theorem Inv.tok (I : Inv X pins σ H s) (t : Nat) : Inv X pins σ H { s with toks := t } := I.un (h' := s.heap) (t' := t) Un.refl I.hok
theorem Inv.kept {t' : Nat} (I : Inv X pins σ H s) (k : ∀ b u, s.heap.get? b = some u -> h'.get? b = some u) : Inv X pins σ H { s with heap := h', toks := t' } := I.un (Un.kept k) (I.hok.kept k)
theorem Inv.laid {a : Addr} {o : HO} {t' : Nat} (I : Inv X pins σ H s) (k : ∀ b u, s.heap.get? b = some u -> h'.get? b = some u) (hp : s.heap.objs.size <= a) (new : ObjOk X.prog X.w (upd H a o) h' a o) :
    Inv X pins σ (upd H a o) { s with heap := h', toks := t' } := I.un (Un.laid k hp (I.hok.fresh hp)) (I.hok.laid k hp new)
theorem Inv.write {x e : Addr} {o : HO} {t' : Nat} (I : Inv X pins σ H s) (mu : Mut (H x)) (he : e = x \/ H e = some (.own x)) (k : ∀ b u, b ≠ e -> s.heap.get? b = some u -> h'.get? b = some u) (heo : ∃ u, h'.get? e = some u)
    (new : ObjOk X.prog X.w (upd H x o) h' x o) : Inv X pins σ (upd H x o) { s with heap := h', toks := t' } := I.un (Un.write mu he k heo) (I.hok.write mu he k heo new)
theorem Inv.pins_of {pins' : List (Addr × Obj)} (I : Inv X pins σ H s) (h : ∀ p ∈ pins', s.heap.get? p.1 = some p.2 /\ H p.1 = none /\ p.1 ≠ X.env.locals /\ p.1 ∉ X.fs /\ ∀ v, p.2.data ≠ .cell v) : Inv X pins' σ H s :=
  ⟨I.ok, I.os, I.bare, I.base, I.loc, I.cell, I.free, I.freeC, fun p hp => (List.mem_append.mp hp).elim (fun z => I.pin p (List.mem_append_left _ z)) (h p), I.hok, I.len⟩
theorem nodup_ix {N : List Str} (hN : N.Nodup) {i j : Nat} {x : Str} (a : N[i]? = some x) (b : N[j]? = some x) : i = j := by
  obtain ⟨h1, e1⟩ := List.getElem?_eq_some_iff.mp a
  obtain ⟨h2, e2⟩ := List.getElem?_eq_some_iff.mp b
  exact (List.getElem_inj hN).mp (e1.trans e2.symm)
theorem store_ok2 {M : Model} {A : Around} {E : Value -> Shared -> Prop} {i : Nat} {x : Str} {v : V} {u : Value} {Q : Unit -> Shared -> Prop} (I : Inv X pins σ H s) (hN : X.N.Nodup) (hi : X.N[i]? = some x) (hx : Loc X.env.scope x) (r : RelV v u)
    (h : ∀ s', Inv X pins (σ.set i (some v)) H s' -> (∃ a, Heap.SameBut a s.heap s'.heap /\ (a = X.env.locals \/ X.env.cells.lookup x = some a)) -> Q () s') (hf : X.fn x = true \/ X.env.scope.names.lookup x = some .local := by first | exact .inl rfl | exact .inr rfl | assumption) : wpAny M A (storeName X.env x u) Q E s := by
  obtain ⟨m, hn, hl⟩ := id I.loc
  have hcls : (X.env.scope.kind == .class || (X.env.scope.kind == .module && X.env.locals != X.env.globals)) = false := by rw [I.ok.kind]; rfl
  have hiσ : i < σ.length := by rw [I.len]; exact (List.getElem?_eq_some_iff.mp hi).1
  have cne := I.cne
  have tracked : ∀ {a : Addr} {h' : Heap}, (∃ o, s.heap.get? a = some o /\ H a = none) -> Heap.SameBut a s.heap h' -> HOk X.prog X.w H h' := fun {a h'} ha hs b ob e => by
    obtain ⟨_, _, hfree⟩ := ha
    refine (I.hok b ob e).stay (fun c w' hc q => (hs.2 c ?_).trans q) (fun _ q => q) fun _ _ q => q
    rintro rfl
    rcases hc with rfl | hc
    · rw [hfree] at e; cases e
    · rw [hfree] at hc; cases hc
  rcases hx with hk | hk
  · refine wpAny_storeName_local hk hn (fun h' hn' hs => ?_) hcls
    obtain ⟨oL, _, _, hoL, _⟩ := id hn
    refine h _ ⟨I.ok, I.os, I.bare, ⟨fun b o e n hb hx => ?_, fun b o e n hb hx => ?_, I.base.free, fun b o e hx => ?_, I.base.tups, I.base.frzs, I.base.tbls⟩, ⟨_, hn', fun j y v' e1 e2 e3 => ?_⟩, fun y c e => ?_, I.free, I.freeC, fun p hp => ?_, tracked ⟨oL, hoL, I.free⟩ hs, by simpa using I.len⟩ ⟨_, hs, .inl rfl⟩
    · exact (hs.2 b (Nat.ne_of_lt (Nat.lt_of_lt_of_le (Heap.lt_size e) I.ok.above))).trans (I.base.keep b o e n hb hx)
    · obtain ⟨sl, e1⟩ := I.base.slot b o e n hb hx
      exact ⟨sl, (hs.2 b (Nat.ne_of_lt (Nat.lt_of_lt_of_le (Heap.lt_size e) I.ok.above))).trans e1⟩
    · obtain ⟨o', e1⟩ := I.base.there b o e hx
      exact ⟨o', (hs.2 b (Nat.ne_of_lt (Nat.lt_of_lt_of_le (Heap.lt_size e) I.ok.above))).trans e1⟩
    · by_cases hj : j = i
      · subst hj
        rw [hi] at e1; cases e1
        rw [List.getElem?_set_self hiσ] at e2
        cases e2
        exact ⟨u, r, .inl ⟨hk, by simp⟩⟩
      · rw [List.getElem?_set_ne (Ne.symm hj)] at e2
        obtain ⟨u', r', q⟩ := hl j y v' e1 e2 e3
        refine ⟨u', r', ?_⟩
        rcases q with ⟨k, e⟩ | ⟨k, c, e, z⟩
        · refine .inl ⟨k, ?_⟩
          have : y ≠ x := fun e => hj (nodup_ix hN e1 (e ▸ hi))
          simp [this, e]
        · exact .inr ⟨k, c, e, z.sameBut hs (cne y c e)⟩
    · obtain ⟨w', z⟩ := I.cell y c e
      exact ⟨w', z.sameBut hs (cne y c e)⟩
    · obtain ⟨e, n, ne, nf, d⟩ := I.pin p hp
      exact ⟨(hs.2 p.1 ne).trans e, n, ne, nf, d⟩
  · have hfn : X.fn x = true := by
      rcases hf with z | z
      · exact z
      · rw [z] at hk; cases hk
    obtain ⟨c, hc⟩ := I.ok.has x (.inl hk)
    obtain ⟨w', z⟩ := I.cell x c hc
    refine wpAny_storeName_cell I.ok.kind hk hc z (fun h' hc' hs => ?_)
    obtain ⟨oc, hoc, hocd⟩ := id z
    refine h { s with heap := h' } ⟨I.ok, I.os, I.bare, ⟨fun b o e n hb hx => ?_, fun b o e n hb hx => ?_, I.base.free, fun b o e hx => ?_, I.base.tups, I.base.frzs, I.base.tbls⟩, ⟨m, hn.sameBut hs (Ne.symm (cne x c hc)), fun j y v' e1 e2 e3 => ?_⟩, fun y c' e => ?_, I.free, I.freeC, fun p hp => ?_, tracked ⟨oc, hoc, I.freeC x c hc⟩ hs, by simpa using I.len⟩ ⟨c, hs, .inr hc⟩
    · exact (hs.2 b (Nat.ne_of_lt (Nat.lt_of_lt_of_le (Heap.lt_size e) (I.ok.cab x c hfn hc)))).trans (I.base.keep b o e n hb hx)
    · obtain ⟨sl, e1⟩ := I.base.slot b o e n hb hx
      exact ⟨sl, (hs.2 b (Nat.ne_of_lt (Nat.lt_of_lt_of_le (Heap.lt_size e) (I.ok.cab x c hfn hc)))).trans e1⟩
    · obtain ⟨o', e1⟩ := I.base.there b o e hx
      exact ⟨o', (hs.2 b (Nat.ne_of_lt (Nat.lt_of_lt_of_le (Heap.lt_size e) (I.ok.cab x c hfn hc)))).trans e1⟩
    · by_cases hj : j = i
      · subst hj
        rw [hi] at e1; cases e1
        rw [List.getElem?_set_self hiσ] at e2
        cases e2
        exact ⟨u, r, .inr ⟨.inl hk, c, hc, hc'⟩⟩
      · rw [List.getElem?_set_ne (Ne.symm hj)] at e2
        obtain ⟨u', r', q⟩ := hl j y v' e1 e2 e3
        refine ⟨u', r', ?_⟩
        rcases q with q | ⟨k, c', e, z'⟩
        · exact .inl q
        · refine .inr ⟨k, c', e, z'.sameBut hs ?_⟩
          rintro rfl
          exact hj (nodup_ix hN e1 (I.ok.inj _ _ _ e hc ▸ hi))
    · by_cases hcc : c' = c
      · subst hcc; exact ⟨_, hc'⟩
      · obtain ⟨w2, z2⟩ := I.cell y c' e
        exact ⟨w2, z2.sameBut hs hcc⟩
    · obtain ⟨e, n, ne, nf, d⟩ := I.pin p hp
      refine ⟨(hs.2 p.1 ?_).trans e, n, ne, nf, d⟩
      intro q
      rw [q, hoc] at e
      have q' : oc = p.2 := Option.some.inj e
      exact d w' (by rw [<- q']; exact hocd)
theorem store_ok {M : Model} {A : Around} {E : Value -> Shared -> Prop} {i : Nat} {x : Str} {v : V} {u : Value} {Q : Unit -> Shared -> Prop} (I : Inv X pins σ H s) (hN : X.N.Nodup) (hi : X.N[i]? = some x) (hx : Loc X.env.scope x) (r : RelV v u)
    (h : ∀ s', Inv X pins (σ.set i (some v)) H s' -> Q () s') (hf : X.fn x = true \/ X.env.scope.names.lookup x = some .local := by first | exact .inl rfl | exact .inr rfl | assumption) : wpAny M A (storeName X.env x u) Q E s :=
  store_ok2 I hN hi hx r (fun s' I' _ => h s' I') hf
theorem Inv.call' {s' : Shared} {ch : List Addr} (I : Inv X pins σ H s) (ho : s'.os = s.os) (u : Un (frs X.stack) ch H H' s.heap s'.heap) (hok : HOk X.prog X.w H' s'.heap) (hg : AllBare s'.gens)
    (hch : ∀ b ∈ ch, (b ∈ X.ex \/ X.s₀.heap.objs.size <= b) /\ b ≠ X.env.locals /\ (∀ x c, X.env.cells.lookup x = some c -> c ≠ b) /\ ∀ p ∈ X.pn ++ pins, p.1 ≠ b) : Inv X pins σ H' s' := by
  obtain ⟨h', g', d', t', o'⟩ := s'
  have e : o' = s.os := ho
  subst e
  exact I.call (g' := g') (t' := t') (d' := d') u hok hg hch
end
abbrev XK := Value -> Option Addr -> Hp -> Prop
abbrev St := List (Option V)
abbrev VK := V -> Hp -> Prop
abbrev TE := St -> Hp -> VK -> Prop
abbrev TT := St -> Hp -> (Bool -> Hp -> Prop) -> Prop
abbrev TA := St -> Hp -> (List V -> Hp -> Prop) -> Prop
structure Ends where
  nx : St -> Hp -> Prop
  rt : VK
  bk : St -> Hp -> Prop := fun _ _ => False
  ct : St -> Hp -> Prop := fun _ _ => False
abbrev TS := Ends -> St -> Hp -> Prop
def EP (X : Cx) (pins : List (Addr × Obj)) (σ : St) (Q : VK) (u : Value) (s' : Shared) : Prop := ∃ v H', Inv X pins σ H' s' /\ RelV v u /\ Q v H'
def TP (X : Cx) (pins : List (Addr × Obj)) (σ : St) (Q : Bool -> Hp -> Prop) (b : Bool) (s' : Shared) : Prop := ∃ H', Inv X pins σ H' s' /\ Q b H'
def AP (X : Cx) (pins : List (Addr × Obj)) (σ : St) (Q : List V -> Hp -> Prop) (us : List Value) (s' : Shared) : Prop := ∃ vs H', Inv X pins σ H' s' /\ Vals vs us /\ Q vs H'
def SP (X : Cx) (pins : List (Addr × Obj)) (D : Ends) (f : Flow) (s' : Shared) : Prop :=
  match f with
  | .next => ∃ σ' H', Inv X pins σ' H' s' /\ D.nx σ' H'
  | .brk => ∃ σ' H', Inv X pins σ' H' s' /\ D.bk σ' H'
  | .cont => ∃ σ' H', Inv X pins σ' H' s' /\ D.ct σ' H'
  | .ret u => ∃ v σ' H', Inv X pins σ' H' s' /\ RelV v u /\ D.rt v H'
def PE (X : Cx) (e : Expr) (t : TE) : Prop :=
  ∀ (pins : List (Addr × Obj)) (s : Shared) (σ : St) (H : Hp) (Q : VK), Inv X pins σ H s -> t σ H Q -> wpAny (model X.prog X.w) X.A (eval e X.env) (EP X pins σ Q) X.xe s
def PT (X : Cx) (e : Expr) (t : TT) : Prop :=
  ∀ (pins : List (Addr × Obj)) (s : Shared) (σ : St) (H : Hp) (Q : Bool -> Hp -> Prop), Inv X pins σ H s -> t σ H Q -> wpAny (model X.prog X.w) X.A (isTrue e X.env (eval e X.env)) (TP X pins σ Q) X.xe s
def PW (X : Cx) (e : Expr) (t : TT) : Prop :=
  ∀ (whole : Sem Value) (pins : List (Addr × Obj)) (s : Shared) (σ : St) (H : Hp) (Q : Bool -> Hp -> Prop), Inv X pins σ H s -> t σ H Q -> wpAny (model X.prog X.w) X.A (isTrue e X.env whole) (TP X pins σ Q) X.xe s
theorem PW.pt {X : Cx} {e : Expr} {t : TT} (h : PW X e t) : PT X e t := h _
def PA (X : Cx) (es : List Expr) (t : TA) : Prop :=
  ∀ (pos : Pos) (pins : List (Addr × Obj)) (s : Shared) (σ : St) (H : Hp) (Q : List V -> Hp -> Prop), Inv X pins σ H s -> t σ H Q -> wpAny (model X.prog X.w) X.A (spliced (backTo pos (starEach es X.env))) (AP X pins σ Q) X.xe s
def PS (X : Cx) (st : Stmt) (t : TS) : Prop :=
  ∀ (pins : List (Addr × Obj)) (s : Shared) (σ : St) (H : Hp) (D : Ends), Inv X pins σ H s -> t D σ H -> wpAny (model X.prog X.w) X.A (exec st X.env) (SP X pins D) X.xe s
def PSs (X : Cx) (st : List Stmt) (t : TS) : Prop :=
  ∀ (pins : List (Addr × Obj)) (s : Shared) (σ : St) (H : Hp) (D : Ends), Inv X pins σ H s -> t D σ H -> wpAny (model X.prog X.w) X.A (execs st X.env) (SP X pins D) X.xe s
theorem thn {α : Type} {t : Sem α} {Q Q' : α -> Shared -> Prop} {M : Model} {A : Around} {E : Value -> Shared -> Prop} {s : Shared} (h : wpAny M A t Q E s) (hQ : ∀ a s, Q a s -> Q' a s) : wpAny M A t Q' E s := wpAny_mono h hQ fun _ _ x => x
section
variable {X : Cx}
def tVar (i : Nat) : TE := fun σ H Q => ∃ v, σ[i]? = some (some v) /\ Q v H
def tC (v : V) : TE := fun _ H Q => Q v H
theorem pe_var {i : Nat} {x : Str} {pos : Pos} (hN : X.N[i]? = some x) (hv : Vis X.env.scope x) (hd : (x == ("__debug__" : Str)) = false := by decide) (hcd : (x == ("__classdict__" : Str)) = false := by decide) : PE X (.Name x pos) (tVar i) := by
  intro pins s σ H Q I h
  obtain ⟨v, e, h⟩ := h
  obtain ⟨m, hn, hl⟩ := I.loc
  obtain ⟨u, r, l⟩ := hl i x v hN e hv
  have fin : EP X pins σ Q u s := ⟨v, H, I, r, h⟩
  rcases l with ⟨hk, hm⟩ | ⟨hk, c, hc, hcell⟩
  · exact wpAny_Name (wpAny_loadName_local I.ok.kind hk hn hm fin) hd
  · rcases hk with hk | hk
    · exact wpAny_Name (wpAny_loadName_cell I.ok.kind hk hc hcell fin) hd
    · exact wpAny_Name (wpAny_loadName_free I.ok.kind hk hc hcell fin hcd) hd
theorem pe_int {i j pos} : PE X (.Constant (.int i) j pos) (tC (.int i)) := fun _ _ _ H _ I h => wpAny_Constant_int ⟨.int i, H, I.tok _, ⟨_, rfl⟩, h⟩
theorem pe_bl {b j pos} : PE X (.Constant (.bool b) j pos) (tC (.bl b)) := fun _ _ _ H _ I h => Constant_bool ⟨.bl b, H, I, rfl, h⟩
def Gl (X : Cx) (x : Str) : Prop := X.env.kindOf x = some .globalImplicit
theorem ld_glob {E : Value -> Shared -> Prop} {pins : List (Addr × Obj)} {s : Shared} {σ : St} {H : Hp} {x : Str} {u : Value} {pos : Pos} {Q : Value -> Shared -> Prop} (I : Inv X pins σ H s) (hg : Gl X x) (hm : X.mg x = some u) (h : Q u s)
    (hd : (x == ("__debug__" : Str)) = false := by decide) : wpAny (model X.prog X.w) X.A (eval (.Name x pos) X.env) Q E s :=
  Calls.Name_function_global I.ok.kind hg (Calls.loadGlobal_global (by rw [I.ok.glob]; exact I.mod.glob.keeps I.bk) hm h) hd
theorem ld_blt {E : Value -> Shared -> Prop} {pins : List (Addr × Obj)} {s : Shared} {σ : St} {H : Hp} {x : Str} {u : Value} {pos : Pos} {Q : Value -> Shared -> Prop} (I : Inv X pins σ H s) (hg : Gl X x) (hm : X.mg x = none) (hv : bootBuiltins x = some u) (h : Q u s)
    (hn : x ≠ "__name__" := by decide) (hd : (x == ("__debug__" : Str)) = false := by decide) : wpAny (model X.prog X.w) X.A (eval (.Name x pos) X.env) Q E s := by
  obtain ⟨mb, h1, h2⟩ := I.mod.blt
  exact Calls.Name_function_global I.ok.kind hg (Calls.loadGlobal_builtin (by rw [I.ok.glob]; exact I.mod.glob.keeps I.bk) hm (by rw [I.ok.blt]; exact h1.keeps I.bk) ((h2 x hn).trans hv) h) hd
theorem pe_glob {x : Str} {v : V} {u : Value} {pos : Pos} (hg : Gl X x) (hm : X.mg x = some u) (r : RelV v u) (hd : (x == ("__debug__" : Str)) = false := by decide) : PE X (.Name x pos) (tC v) :=
  fun _ _ _ H _ I h => ld_glob I hg hm ⟨v, H, I, r, h⟩ hd
theorem pe_bltn {x : Str} {v : V} {u : Value} {pos : Pos} (hg : Gl X x) (hm : X.mg x = none) (hv : bootBuiltins x = some u) (r : RelV v u) (hn : x ≠ "__name__" := by decide) (hd : (x == ("__debug__" : Str)) = false := by decide) : PE X (.Name x pos) (tC v) :=
  fun _ _ _ H _ I h => ld_blt I hg hm hv ⟨v, H, I, r, h⟩ hn hd
variable {a b : Expr} {ta tb : TE} {pos : Pos}
def PC (X : Cx) (op : CmpOp) (a b : Expr) (t : TE) : Prop :=
  ∀ (pins : List (Addr × Obj)) (s : Shared) (σ : St) (H : Hp) (Q : VK), Inv X pins σ H s -> t σ H Q ->
    wpAny (model X.prog X.w) X.A (eval a X.env) (fun v s₁ => wpAny (model X.prog X.w) X.A (eval b X.env) (fun u s₂ => wpAny (model X.prog X.w) X.A (compareOp op v u) (EP X pins σ Q) X.xe s₂) X.xe s₁) X.xe s
def tB (t : TE) : TT := fun σ H Q => t σ H fun x H1 => ∃ c, x = .bl c /\ Q c H1
theorem pt_cmp {op : CmpOp} {t : TE} (h : PC X op a b t) (h1 : behindInMarks op b = false := by first | exact nobehind _ (by decide) (by decide) | rfl) : PT X (.Compare a [op] [b] pos) (tB t) := by
  intro pins s σ H Q I hw
  refine wpAny_isTrue_Compare1 (thn (h pins s σ H _ I hw) fun v s1 h1 => thn h1 fun u s2 h2 => thn h2 fun c s3 ⟨x, H1, I1, r1, q1⟩ => ?_) h1
  obtain ⟨d, rfl, q⟩ := q1
  cases r1
  exact wpAny_truthy_bool ⟨H1, I1, q⟩
theorem pt_val {e : Expr} {t : TE} (h : PE X e t) (he : ∀ whole, isTrue e X.env whole = (do let v <- whole; standAt e.pos; holding [v] (truthy v)) := by intro _; rfl) : PT X e (tB t) := by
  intro pins s σ H Q I hw
  refine isTrue_plain (thn (h pins s σ H _ I hw) fun v s1 ⟨x, H1, I1, r1, q1⟩ => ?_) (he _)
  obtain ⟨d, rfl, q⟩ := q1
  cases r1
  exact wpAny_truthy_bool ⟨H1, I1, q⟩
variable {tA tB' : TT} {rest : List Expr}
def tOr (t u : TT) : TT := fun σ H Q => t σ H fun c H1 => if c = true then Q true H1 else u σ H1 Q
def tNot (t : TT) : TT := fun σ H Q => t σ H fun c H1 => Q (!c) H1
theorem pw_or1 (ha : PT X a tA) : PW X (.BoolOp .Or [a] pos) tA := by
  intro wh pins s σ H Q I h
  refine isTrue_or (thn (ha pins s σ H Q I h) fun c s1 e => ?_)
  cases c with
  | false => exact isTrue_or_nil e
  | true => exact e
theorem pw_or (ha : PT X a tA) (hb : PW X (.BoolOp .Or (b :: rest) pos) tB') : PW X (.BoolOp .Or (a :: b :: rest) pos) (tOr tA tB') := by
  intro wh pins s σ H Q I h
  refine isTrue_or (thn (ha pins s σ H _ I h) fun c s1 ⟨H1, I1, q1⟩ => ?_)
  cases c with
  | true => exact ⟨H1, I1, q1⟩
  | false => exact hb wh pins s1 σ H1 Q I1 q1
theorem pt_not (ha : PT X a tA) : PT X (.UnaryOp .Not a pos) (tNot tA) := by
  intro pins s σ H Q I h
  exact isTrue_not (ha pins s σ H (fun c H1 => Q (!c) H1) I h)
def tAndV (ta tb : TE) : TE := fun σ H Q => ta σ H fun x H1 => ∃ c, x = .bl c /\ if c = true then tb σ H1 Q else Q (.bl false) H1
def tNotV (ta : TE) : TE := fun σ H Q => ta σ H fun x H1 => ∃ c, x = .bl c /\ Q (.bl (!c)) H1
theorem pe_one {op} {t : TE} (h : PE X a t) : PE X (.BoolOp op [a] pos) t := fun pins s σ H Q I hw => BoolOp_one (h pins s σ H Q I hw)
theorem pe_and (ha : PE X a ta) (hb : PE X (.BoolOp .And (b :: rest) pos) tb) : PE X (.BoolOp .And (a :: b :: rest) pos) (tAndV ta tb) := by
  intro pins s σ H Q I h
  refine BoolOp_and (thn (ha pins s σ H _ I h) fun v s1 ⟨x, H1, I1, r1, q1⟩ => ?_)
  obtain ⟨c, rfl, q1⟩ := q1
  cases r1
  refine wpAny_truthy_bool ?_
  cases c with
  | true => exact hb pins s1 σ H1 Q I1 q1
  | false => exact ⟨.bl false, H1, I1, rfl, q1⟩
theorem pe_not (ha : PE X a ta) : PE X (.UnaryOp .Not a pos) (tNotV ta) := by
  intro pins s σ H Q I h
  refine UnaryOp_ (thn (ha pins s σ H _ I h) fun v s1 ⟨x, H1, I1, r1, q1⟩ => ?_)
  obtain ⟨c, rfl, q1⟩ := q1
  cases r1
  exact not_of (wpAny_truthy_bool ⟨.bl (!c), H1, I1, rfl, q1⟩)
def tIf (t : TT) (ta tb : TE) : TE := fun σ H Q => t σ H fun c H1 => if c = true then ta σ H1 Q else tb σ H1 Q
theorem pe_ifExp {c : Expr} (hc : PT X c tA) (ha : PE X a ta) (hb : PE X b tb) : PE X (.IfExp c a b pos) (tIf tA ta tb) := by
  intro pins s σ H Q I h
  refine wpAny_IfExp (thn (hc pins s σ H _ I h) fun d s1 ⟨H1, I1, q1⟩ => ?_)
  cases d with
  | true => exact ha pins s1 σ H1 Q I1 q1
  | false => exact hb pins s1 σ H1 Q I1 q1
end
def SqL (K : PySem.W.Frag) (H : Hp) (a : Addr) (xs : List V) : Prop :=
  Rd H a (.lst xs) \/
    ∃ (o : Obj) (its : Array Value) (n : Nat), K.lookup a = some o /\ o.cls = .type "list" /\ o.dict = none /\ o.data = .seq its n /\ its.size <= sizeLine /\ Vals xs its.toList
def SqT (K : PySem.W.Frag) (H : Hp) (a : Addr) (xs : List V) : Prop :=
  Rd H a (.tup xs) \/
    ∃ (o : Obj) (its : Array Value) (n : Nat), K.lookup a = some o /\ o.cls = .type "tuple" /\ o.data = .seq its n /\ its.size <= sizeLine /\ Vals xs its.toList
def absV : Value -> Option V
  | .none => some .non
  | .bool b => some (.bl b)
  | .int i _ => some (.int i)
  | .str x _ => some (.str x)
  | .bytes b _ => some (.byt b)
  | .float b _ => some (.flt b)
  | .ref a => some (.ref a)
  | .type n => some (.ty n)
  | _ => none
theorem RelV.abs {x : V} {u : Value} (r : RelV x u) : absV u = some x := by
  cases x with
  | non => cases r; rfl
  | bl _ => cases r; rfl
  | int _ => obtain ⟨t, rfl⟩ := r; rfl
  | str _ => obtain ⟨t, rfl⟩ := r; rfl
  | byt _ => obtain ⟨t, rfl⟩ := r; rfl
  | flt _ => obtain ⟨t, rfl⟩ := r; rfl
  | ref _ => cases r; rfl
  | ty _ => cases r; rfl
theorem RelV.inj {x y : V} {u : Value} (r : RelV x u) (q : RelV y u) : x = y := Option.some.inj (r.abs.symm.trans q.abs)
theorem Vals.inj : ∀ {xs ys : List V} {us : List Value}, Vals xs us -> Vals ys us -> xs = ys
  | _, _, _, .nil, .nil => rfl
  | _, _, _, .cons r t, .cons r' t' => by rw [r.inj r', Vals.inj t t']
section
variable {X : Cx} {pins : List (Addr × Obj)} {σ : St} {H : Hp} {s : Shared} {a : Addr} {xs ys : List V}
theorem SqL.of {K : PySem.W.Frag} (h : H a = some (.lst xs)) : SqL K H a xs := .inl (.inl h)
theorem SqT.of {K : PySem.W.Frag} (h : H a = some (.tup xs)) : SqT K H a xs := .inl (.inl h)
theorem Inv.list (I : Inv X pins σ H s) (h : SqL X.K H a xs) : ∃ its : List Value, Vals xs its /\ PlainL s.heap a its.toArray /\ xs.length <= sizeLine := by
  rcases h with h | ⟨o, its, n, hk, hc, hd, hs, hz, r⟩
  · obtain ⟨z, its, n, r, e⟩ := h.ok I.hok
    exact ⟨its, r, ⟨_, n, e, rfl, rfl, rfl⟩, z⟩
  · refine ⟨its.toList, r, ⟨o, n, I.kIn a o hk, hc, hd, by simpa using hs⟩, ?_⟩
    have e := r.length
    simp only [Array.length_toList] at e
    lia
theorem Inv.tuple (I : Inv X pins σ H s) (h : SqT X.K H a xs) : ∃ its : List Value, Vals xs its /\ IsTup s.heap a its.toArray /\ xs.length <= sizeLine := by
  rcases h with h | ⟨o, its, n, hk, hc, hs, hz, r⟩
  · obtain ⟨z, its, r, p⟩ := h.ok I.hok
    exact ⟨its, r, p, z⟩
  · refine ⟨its.toList, r, ⟨o, I.kIn a o hk, hc, n, by simpa using hs⟩, ?_⟩
    have e := r.length
    simp only [Array.length_toList] at e
    lia
theorem Inv.list_inj (I : Inv X pins σ H s) (h : SqL X.K H a xs) (h' : SqL X.K H a ys) : xs = ys := by
  obtain ⟨its, r, ⟨o, n, e, _, _, d⟩, _⟩ := I.list h
  obtain ⟨its', r', ⟨o', n', e', _, _, d'⟩, _⟩ := I.list h'
  rw [e] at e'; cases e'
  rw [d] at d'
  injection d' with d1 _
  have : its = its' := by simpa using congrArg Array.toList d1
  subst this
  exact r.inj r'
theorem Inv.tuple_inj (I : Inv X pins σ H s) (h : SqT X.K H a xs) (h' : SqT X.K H a ys) : xs = ys := by
  obtain ⟨its, r, ⟨o, e, _, n, d⟩, _⟩ := I.tuple h
  obtain ⟨its', r', ⟨o', e', _, n', d'⟩, _⟩ := I.tuple h'
  rw [e] at e'; cases e'
  rw [d] at d'
  injection d' with d1 _
  have : its = its' := by simpa using congrArg Array.toList d1
  subst this
  exact r.inj r'
end
abbrev Cx.wish (X : Cx) (E : Value -> Shared -> Prop) : Cx := { X with xe := E }
abbrev Cx.nox (X : Cx) : Cx := X.wish fun _ _ => False
theorem Cx.Ok.wish {X : Cx} (ok : X.Ok) (E : Value -> Shared -> Prop) : (X.wish E).Ok :=
  ⟨ok.mod, ok.kind, ok.glob, ok.blt, ok.above, ok.inj, ok.has, ok.cab, ok.hd, ok.frames, ok.stk, ok.exf, ok.bs, ok.bsz, ok.noex, ok.exfs, ok.funs, ok.frf⟩
theorem Cx.Ok.unwish {X : Cx} {E : Value -> Shared -> Prop} (ok : (X.wish E).Ok) : X.Ok :=
  ⟨ok.mod, ok.kind, ok.glob, ok.blt, ok.above, ok.inj, ok.has, ok.cab, ok.hd, ok.frames, ok.stk, ok.exf, ok.bs, ok.bsz, ok.noex, ok.exfs, ok.funs, ok.frf⟩
section
variable {X : Cx} {pins : List (Addr × Obj)} {σ : St} {H : Hp} {s : Shared} {E : Value -> Shared -> Prop}
theorem Inv.wish (I : Inv X pins σ H s) (E : Value -> Shared -> Prop) : Inv (X.wish E) pins σ H s := ⟨I.ok.wish E, I.os, I.bare, I.base, I.loc, I.cell, I.free, I.freeC, I.pin, I.hok, I.len⟩
theorem Inv.unwish (I : Inv (X.wish E) pins σ H s) : Inv X pins σ H s := ⟨I.ok.unwish, I.os, I.bare, I.base, I.loc, I.cell, I.free, I.freeC, I.pin, I.hok, I.len⟩
theorem SP.unwish {D : Ends} {f : Flow} {s' : Shared} (h : SP (X.wish E) pins D f s') : SP X pins D f s' := by
  cases f with
  | next => obtain ⟨σ', H', I, q⟩ := h; exact ⟨σ', H', I.unwish, q⟩
  | brk => obtain ⟨σ', H', I, q⟩ := h; exact ⟨σ', H', I.unwish, q⟩
  | cont => obtain ⟨σ', H', I, q⟩ := h; exact ⟨σ', H', I.unwish, q⟩
  | ret u => obtain ⟨v, σ', H', I, r, q⟩ := h; exact ⟨v, σ', H', I.unwish, r, q⟩
theorem PSs.nox {st : List Stmt} {t : TS} (h : PSs X.nox st t) : PSs X st t := fun pins s σ H D I hw =>
  wpAny_mono (h pins s σ H D (I.wish _) hw) (fun _ _ q => q.unwish) fun _ _ z => False.elim z
end
section
variable {X : Cx} {st : Stmt} {rest : List Stmt} {t u : TS} {e : Expr} {te : TE} {pos : Pos}
def tNext : TS := fun D σ H => D.nx σ H
def tSeq (t u : TS) : TS := fun D σ H => t { D with nx := u D } σ H
theorem pss_nil : PSs X [] tNext := fun _ _ σ H _ I h => wpAny_execs_nil ⟨σ, H, I, h⟩
theorem pss_cons (h1 : PS X st t) (h2 : PSs X rest u) : PSs X (st :: rest) (tSeq t u) := by
  intro pins s σ H D I h
  refine wpAny_execs_cons (thn (h1 pins s σ H { D with nx := u D } I h) fun f s1 q => ?_)
  cases f with
  | next =>
    obtain ⟨σ', H', I', q⟩ := q
    exact h2 pins s1 σ' H' D I' q
  | ret v => exact q
  | brk => exact q
  | cont => exact q
theorem pss_one (h1 : PS X st t) : PSs X [st] t := by
  intro pins s σ H D I h
  refine wpAny_execs_cons (thn (h1 pins s σ H D I h) fun f s1 q => ?_)
  cases f with
  | next => exact wpAny_execs_nil q
  | ret v => exact q
  | brk => exact q
  | cont => exact q
theorem Inv.quiet {pins : List (Addr × Obj)} {σ : St} {H : Hp} {s : Shared} (I : Inv X pins σ H s) : interactive X.env = false := by simp [interactive, I.ok.kind]
def tDrop (te : TE) : TS := fun D σ H => te σ H fun _ H1 => D.nx σ H1
theorem ps_expr (he : PE X e te) (hs : swapsWith e none pos.line X.env = pure false := by rfl) : PS X (.Expr e pos) (tDrop te) := by
  intro pins s σ H D I h
  exact wpAny_Expr_any (thn (he pins s σ H _ I h) fun v s1 ⟨x, H1, I1, r1, q1⟩ => ⟨σ, H1, I1, q1⟩) I.quiet hs
def tRet (te : TE) : TS := fun D σ H => te σ H D.rt
theorem ps_ret (he : PE X e te) : PS X (.Return (some e) pos) (tRet te) := by
  intro pins s σ H D I h
  exact wpAny_Return_some (thn (he pins s σ H _ I h) fun v s1 ⟨x, H1, I1, r1, q1⟩ => ⟨x, σ, H1, I1, r1, q1⟩)
def tIfS (c : TT) (t u : TS) : TS := fun D σ H => c σ H fun b H1 => if b = true then t D σ H1 else u D σ H1
theorem ps_if {c : Expr} {a b : List Stmt} {tc : TT} (hc : PT X c tc) (ha : PSs X a t) (hb : PSs X b u) : PS X (.If c a b pos) (tIfS tc t u) := by
  intro pins s σ H D I h
  refine wpAny_If (thn (hc pins s σ H _ I h) fun d s1 ⟨H1, I1, q1⟩ => ?_)
  cases d with
  | true => exact ha pins s1 σ H1 D I1 q1
  | false => exact hb pins s1 σ H1 D I1 q1
def tNever : TS := fun _ _ _ => False
theorem pss_never {sts : List Stmt} : PSs X sts tNever := fun _ _ _ _ _ _ h => h.elim
end
abbrev TG := V -> St -> Hp -> (St -> Hp -> Prop) -> Prop
abbrev TGs := List V -> St -> Hp -> (St -> Hp -> Prop) -> Prop
def PG (X : Cx) (target : Expr) (t : TG) : Prop :=
  ∀ (pins : List (Addr × Obj)) (s : Shared) (σ : St) (H : Hp) (v : V) (u : Value) (Q : St -> Hp -> Prop), Inv X pins σ H s -> RelV v u -> t v σ H Q ->
    wpAny (model X.prog X.w) X.A (assign target X.env u) (fun _ s' => ∃ σ' H', Inv X pins σ' H' s' /\ Q σ' H') X.xe s
def PGs (X : Cx) (ts : List Expr) (t : TGs) : Prop :=
  ∀ (pins : List (Addr × Obj)) (s : Shared) (σ : St) (H : Hp) (vs : List V) (us : List Value) (Q : St -> Hp -> Prop), Inv X pins σ H s -> Vals vs us -> t vs σ H Q ->
    wpAny (model X.prog X.w) X.A (assignInOrder ((assignEach ts X.env).map (·.2)) us) (fun _ s' => ∃ σ' H', Inv X pins σ' H' s' /\ Q σ' H') X.xe s
abbrev TSet := V -> V -> V -> Hp -> (Hp -> Prop) -> Prop
def PSet (X : Cx) (t : TSet) : Prop :=
  ∀ (pins : List (Addr × Obj)) (s : Shared) (σ : St) (H : Hp) (o i v : V) (ov iv u : Value) (Q : Hp -> Prop), Inv X pins σ H s -> RelV o ov -> RelV i iv -> RelV v u -> t o i v H Q ->
    wpAny (model X.prog X.w) X.A (setItem ov iv u) (fun _ s' => ∃ H', Inv X pins σ H' s' /\ Q H') X.xe s
section
variable {X : Cx} {pos : Pos}
def gName (i : Nat) : TG := fun v σ H Q => Q (σ.set i (some v)) H
theorem pg_name {i : Nat} {x : Str} (hN : X.N.Nodup) (hi : X.N[i]? = some x) (hx : Loc X.env.scope x) (hf : X.fn x = true \/ X.env.scope.names.lookup x = some .local := by first | exact .inl rfl | exact .inr rfl | assumption) : PG X (.Name x pos) (gName i) := by
  intro pins s σ H v u Q I r h
  exact wpAny_assign_Name (store_ok I hN hi hx r (fun s' I' => ⟨_, H, I', h⟩) hf)
def gNil : TGs := fun vs σ H Q => vs = [] /\ Q σ H
def gCons (t : TG) (u : TGs) : TGs := fun vs σ H Q => ∃ v r, vs = v :: r /\ t v σ H fun σ' H' => u r σ' H' Q
theorem pgs_nil : PGs X [] gNil := by
  intro pins s σ H vs us Q I r h
  obtain ⟨e, h⟩ := h
  subst e
  cases r
  exact assignInOrder_nil ⟨σ, H, I, h⟩
theorem pgs_cons {e : Expr} {es : List Expr} {t : TG} {u : TGs} (h1 : PG X e t) (h2 : PGs X es u)
    (hs : (assignEach (e :: es) X.env).map (·.2) = assign e X.env :: (assignEach es X.env).map (·.2) := by rfl) : PGs X (e :: es) (gCons t u) := by
  intro pins s σ H vs us Q I r h
  obtain ⟨v, vr, e1, h⟩ := h
  subst e1
  cases r with
  | cons r rr =>
    rw [hs]
    refine assignInOrder_cons (thn (h1 pins s σ H _ _ _ I r h) fun _ s1 ⟨σ1, H1, I1, q1⟩ => ?_)
    exact h2 pins s1 σ1 H1 _ _ Q I1 rr q1
def gTup (K : PySem.W.Frag) (n : Nat) (t : TGs) : TG := fun v σ H Q => ∃ a xs, v = .ref a /\ SqT K H a xs /\ xs.length = n /\ t xs σ H Q
theorem pg_tup {es : List Expr} {k : Nat} {t : TGs} {n : Nat} (hc : X.calm = true) (h : PGs X es t)
    (hn : (assignEach es X.env).length = n := by rfl) (hst : (assignEach es X.env).findIdx? (·.1) = none := by rfl) : PG X (.Tuple es k pos) (gTup X.K n t) := by
  intro pins s σ H v u Q I r hw
  obtain ⟨a, xs, e1, hq, hl, hw⟩ := hw
  subst e1
  cases r
  obtain ⟨its, rv, ht, hz⟩ := I.tuple hq
  refine assign_Tuple_tuple (I.ok.hd hc) ht (by simp [hn, <- hl, rv.length]) hst fun h' hx => ?_
  have I1 : Inv X pins σ H { s with heap := h' } := I.kept (t' := s.toks) fun b o e => hx b o (Nat.ne_of_lt (Heap.lt_size e)) e
  exact h pins _ σ H xs _ Q I1 (by simpa using rv) hw
def gSub (to ti : TE) (t : TSet) : TG := fun v σ H Q => to σ H fun o H1 => ti σ H1 fun i H2 => t o i v H2 fun H3 => Q σ H3
theorem pg_sub {o i : Expr} {to ti : TE} {t : TSet} (ho : PE X o to) (hi : PE X i ti) (hs : PSet X t)
    (ha : ∀ v, assign (.Subscript o i pos) X.env v = (do
      let ov <- holding [v] (eval o X.env)
      let iv <- holding [v, ov] (eval i X.env)
      standAt pos
      holding [v, ov, iv] (setItem ov iv v)
      release [v, ov, iv] []) := by intro _; rfl) : PG X (.Subscript o i pos) (gSub to ti t) := by
  intro pins s σ H v u Q I r h
  rw [ha]
  refine wpAny_bind (wpAny_holding (thn (ho pins s σ H _ I h) fun ov s1 ⟨x, H1, I1, r1, q1⟩ => ?_))
  refine wpAny_bind (wpAny_holding (thn (hi pins s1 σ H1 _ I1 q1) fun iv s2 ⟨y, H2, I2, r2, q2⟩ => ?_))
  refine wpAny_bind (wpAny_standAt (wpAny_bind (wpAny_holding (thn (hs pins s2 σ H2 x y v ov iv u _ I2 r1 r2 r q2) fun _ s3 ⟨H3, I3, q3⟩ => ?_))))
  exact wpAny_release ⟨σ, H3, I3, q3⟩
def tAsg (te : TE) (g : TG) : TS := fun D σ H => te σ H fun x H1 => g x σ H1 D.nx
theorem ps_asg {tg e : Expr} {te : TE} {g : TG} (he : PE X e te) (hg : PG X tg g) (hs : swapsWithSole [tg] e pos.line X.env = pure false := by rfl) (hw : swappedStores [tg] e X.env = pure none := by rfl)
    (h1 : (assignEach [tg] X.env).map (·.2) = [assign tg X.env] := by rfl) : PS X (.Assign [tg] e pos) (tAsg te g) := by
  intro pins s σ H D I h
  refine wpAny_Assign_stores (thn (he pins s σ H _ I h) fun v s1 ⟨x, H1, I1, r1, q1⟩ => ?_) hs hw
  rw [h1]
  exact thn (hg pins s1 σ H1 x v _ I1 r1 q1) fun _ s2 q => q
theorem ps_set {i : Nat} {x : Str} {e : Expr} {te : TE} {pos' : Pos} (hN : X.N.Nodup) (hi : X.N[i]? = some x) (hx : Loc X.env.scope x) (he : PE X e te) (hs : swapsWith e (some (.Name x pos')) pos.line X.env = pure false := by rfl) (hf : X.fn x = true \/ X.env.scope.names.lookup x = some .local := by first | exact .inl rfl | exact .inr rfl | assumption) :
    PS X (.Assign [.Name x pos'] e pos) (tAsg te (gName i)) := by
  intro pins s σ H D I h
  refine wpAny_Assign_Name (thn (he pins s σ H _ I h) fun v s1 ⟨y, H1, I1, r1, q1⟩ => ?_) hs
  exact store_ok I1 hN hi hx r1 (fun s2 I2 => ⟨_, H1, I2, q1⟩) hf
def tWhile (c : TT) (tb : TS) : TS := fun D σ H => ∃ W : Nat -> St -> Hp -> Prop, (∃ m, W m σ H) /\ ∀ m σ H, W m σ H ->
  c σ H fun b H1 => if b = true then ∃ N : St -> Hp -> Prop, (∀ σ' H', N σ' H' -> ∃ m', m' < m /\ W m' σ' H') /\ tb { D with nx := N, ct := N, bk := D.nx } σ H1 else D.nx σ H1
theorem ps_while {c : Expr} {body : List Stmt} {tc : TT} {tb : TS} (hp : PassesOwn (model X.prog X.w) X.A X.env X.xe) (hc : PT X c tc) (hb : PSs X body tb) : PS X (.While c body [] pos) (tWhile tc tb) := by
  intro pins s σ H D I h
  obtain ⟨W, ⟨m0, w0⟩, turn⟩ := h
  refine wpAny_While (codeAny_whileLoop (fun n s' => ∃ σ' H', Inv X pins σ' H' s' /\ W n σ' H') ?_ m0 ⟨σ, H, I, w0⟩)
  rintro n s1 ⟨σ1, H1, I1, w1⟩
  refine wpAny_passesOwn hp (thn (hc pins s1 σ1 H1 _ I1 (turn n σ1 H1 w1)) fun b s2 ⟨H2, I2, q2⟩ => ?_)
  cases b with
  | true =>
    obtain ⟨N, hN, q2⟩ := q2
    rw [if_pos rfl]
    refine wpAny_passesOwn hp (thn (hb pins s2 σ1 H2 _ I2 q2) fun f s3 q3 => ?_)
    cases f with
    | next =>
      obtain ⟨σ3, H3, I3, n3⟩ := q3
      obtain ⟨m', hm, w3⟩ := hN σ3 H3 n3
      exact ⟨m', hm, σ3, H3, I3, w3⟩
    | cont =>
      obtain ⟨σ3, H3, I3, n3⟩ := q3
      obtain ⟨m', hm, w3⟩ := hN σ3 H3 n3
      exact ⟨m', hm, σ3, H3, I3, w3⟩
    | brk => exact q3
    | ret v => exact q3
  | false =>
    rw [if_neg Bool.false_ne_true]
    exact wpAny_execs_nil ⟨σ1, H2, I2, q2⟩
end
structure It where
  go : Nat -> Hp -> Prop
  yld : Nat -> Hp -> V -> Hp -> Prop
  stop : Nat -> Hp -> Prop
def FpOk (X : Cx) (pins : List (Addr × Obj)) (H : Hp) (b : Addr) : Prop :=
  H b = none /\ b ≠ X.env.locals /\ b ∉ X.fs /\ (b ∈ X.ex \/ X.s₀.heap.objs.size <= b) /\ (∀ x c, X.env.cells.lookup x = some c -> c ≠ b) /\ ∀ p ∈ X.pn ++ pins, p.1 ≠ b
theorem Inv.fpOk {X : Cx} {pins : List (Addr × Obj)} {σ : St} {H H' : Hp} {s : Shared} {b : Addr} (I : Inv X pins σ H s) (hb : s.heap.objs.size <= b) (hn : H' b = none) : FpOk X pins H' b := by
  refine ⟨hn, Nat.ne_of_gt (Nat.lt_of_lt_of_le I.lt hb), I.nofs hb, .inr (Nat.le_trans I.sz hb), fun x c e z => ?_, fun p hp z => ?_⟩
  · obtain ⟨v, q⟩ := I.cell x c e
    exact absurd (Nat.lt_of_lt_of_le q.lt (by rw [z]; exact hb)) (Nat.lt_irrefl _)
  · exact absurd (Nat.lt_of_lt_of_le (Heap.lt_size (I.pin p hp).1) (by rw [z]; exact hb)) (Nat.lt_irrefl _)
structure Turn (P : Program) (w : World) (K : PySem.W.Frag) (tg : Expr) (J : It) (fp : List Addr) (it : Addr) (tn : Nat -> Heap -> Prop) : Prop where
  mem : it ∈ fp
  obj : ∀ i h, tn i h -> ∀ b ∈ fp, ∃ o, h.get? b = some o /\ ∀ v, o.data ≠ .cell v
  keep : ∀ i h h', tn i h -> (∀ b ∈ fp, ∀ o, h.get? b = some o -> h'.get? b = some o) -> tn i h'
  item : ∀ (X : Cx), X.prog = P -> X.w = w -> X.K = K -> X.calm = true -> ∀ (i : Nat) (pins : List (Addr × Obj)) (s : Shared) (σ : St) (H : Hp) (E : Value -> Shared -> Prop), Inv X pins σ H s -> (∀ b ∈ fp, FpOk X pins H b) -> tn i s.heap -> J.go i H ->
    wpAny (model P w) X.A (pyNext (.ref it)) (fun r s1 => ∃ u, r = some u /\
      wpAny (model P w) X.A (letOwnedTupleGo tg (.ref it) u) (fun _ s2 => ∃ x H', Inv X pins σ H' s2 /\ RelV x u /\ J.yld i H x H' /\ tn (i + 1) s2.heap /\ ∀ b ∈ fp, H' b = none) E s1) E s
  done : ∀ (X : Cx), X.prog = P -> X.w = w -> X.K = K -> X.calm = true -> ∀ (i : Nat) (pins : List (Addr × Obj)) (s : Shared) (σ : St) (H : Hp) (E : Value -> Shared -> Prop), Inv X pins σ H s -> (∀ b ∈ fp, FpOk X pins H b) -> tn i s.heap -> J.stop i H ->
    wpAny (model P w) X.A (pyNext (.ref it)) (fun r s1 => r = none /\ Inv X pins σ H s1) E s
  self : ∀ (A : Around) (i : Nat) (s : Shared) (Q : Value -> Shared -> Prop) (E : Value -> Shared -> Prop), tn i s.heap -> Q (.ref it) s -> wpAny (model P w) A (pyIter (.ref it)) Q E s
abbrev TI := St -> Hp -> (It -> Hp -> Prop) -> Prop
def PIE (X : Cx) (pins : List (Addr × Obj)) (σ : St) (tg : Expr) (R : It -> Hp -> Prop) (itv : Value) (s2 : Shared) : Prop :=
  ∃ (it : Addr) (fp : List Addr) (tn : Nat -> Heap -> Prop) (J : It) (H' : Hp), itv = .ref it /\ Inv X pins σ H' s2 /\ Turn X.prog X.w X.K tg J fp it tn /\ tn 0 s2.heap /\ (∀ b ∈ fp, FpOk X pins H' b) /\ R J H'
def PI (X : Cx) (tg iter : Expr) (wi : TI) : Prop :=
  ∀ (pins : List (Addr × Obj)) (s : Shared) (σ : St) (H : Hp) (R : It -> Hp -> Prop), Inv X pins σ H s -> wi σ H R ->
    wpAny (model X.prog X.w) X.A (eval iter X.env) (fun v s1 => wpAny (model X.prog X.w) X.A (pyIter v) (PIE X pins σ tg R) X.xe s1) X.xe s
theorem go_of {M : Model} {A : Around} {E : Value -> Shared -> Prop} {s : Shared} {tg : Expr} {it : Addr} {u : Value} {o : Obj} {n : String} {vs : Array Value} {Q : Unit -> Shared -> Prop} (ho : s.heap.get? it = some o) (hc : o.cls = .type n) (hd : o.data = .fields vs)
    (hn : ["enumerate", "zip", "dict_itemiterator", "dict_reverseitemiterator", "odict_iterator", "itertools.zip_longest", "itertools.pairwise"].contains n = false) (hQ : Q () s) : wpAny M A (letOwnedTupleGo tg (.ref it) u) Q E s := by
  unfold letOwnedTupleGo
  cases tg <;> first
    | exact wpAny_pure hQ
    | (cases u <;> first
        | exact wpAny_pure hQ
        | (refine wpAny_bind (wpAny_load ho ?_)
           rw [hc, hd]
           show wpAny M A (if (["enumerate", "zip", "dict_itemiterator", "dict_reverseitemiterator", "odict_iterator", "itertools.zip_longest", "itertools.pairwise"].contains n && vs[0]? == some (rawInt _)) = true then _ else _) Q E s
           rw [if_neg (by intro h; rw [hn, Bool.false_and] at h; cases h)]
           exact wpAny_pure hQ))
def Itl (K : PySem.W.Frag) (a : Addr) : It :=
  ⟨fun i H => ∃ xs x, SqL K H a xs /\ xs[i]? = some x, fun i H x H' => H' = H /\ ∀ xs, SqL K H a xs -> xs[i]? = some x, fun i H => ∃ xs, SqL K H a xs /\ xs.length <= i⟩
def Itt (K : PySem.W.Frag) (a : Addr) : It :=
  ⟨fun i H => ∃ xs x, SqT K H a xs /\ xs[i]? = some x, fun i H x H' => H' = H /\ ∀ xs, SqT K H a xs -> xs[i]? = some x, fun i H => ∃ xs, SqT K H a xs /\ xs.length <= i⟩
def Itr (lo : Int) (n : Nat) : It := ⟨fun i _ => i < n, fun i H x H' => H' = H /\ x = .int (lo + i), fun i _ => n <= i⟩
theorem turn_list {P : Program} {w : World} {K : PySem.W.Frag} {tg : Expr} (a it : Addr) : Turn P w K tg (Itl K a) [it] it (fun i h => h.IsListIter it a i) where
  mem := by simp
  obj := fun i h st b hb => by
    have e : b = it := by simpa using hb
    subst e
    obtain ⟨o, e, c, d⟩ := st
    exact ⟨o, e, fun v z => by rw [d] at z; cases z⟩
  keep := fun i h h' st k => st.at fun o e => k it (by simp) o e
  item := by
    intro X hP hw hK hc i pins s σ H E I hf st hg
    subst hP hw hK
    obtain ⟨xs, x, hq, hx⟩ := hg
    obtain ⟨its, rv, p, hz⟩ := I.list hq
    obtain ⟨u, hu, ru⟩ := rv.get hx
    obtain ⟨f0, f1, f2, f3, f4, f5⟩ := hf it (by simp)
    refine wpAny_pyNext_list_item st p.isList (x := u) (by simpa using hu) fun h' st' sb => ?_
    have I1 : Inv X pins σ H { s with heap := h' } := I.turned (t' := s.toks) (fun b o hb e => (sb.2 b hb).trans e) f0 f1 f3 f4 f5
    obtain ⟨o, e, c, d⟩ := id st'
    exact ⟨u, rfl, go_of (s := { s with heap := h' }) e c d (by decide) ⟨x, H, I1, ru, ⟨rfl, fun ys hy => by rw [I.list_inj hy hq]; exact hx⟩, st', fun b hb => (hf b hb).1⟩⟩
  done := by
    intro X hP hw hK hc i pins s σ H E I hf st hg
    subst hP hw hK
    obtain ⟨xs, hq, hx⟩ := hg
    obtain ⟨its, rv, p, hz⟩ := I.list hq
    obtain ⟨f0, f1, f2, f3, f4, f5⟩ := hf it (by simp)
    have hl := rv.length
    exact wpAny_pyNext_list_end (I.ok.hd hc) st p.isList (by simp; lia) fun h' eb => ⟨rfl, I.turned (t' := s.toks) (fun b o hb e => eb b o hb e) f0 f1 f3 f4 f5⟩
  self := fun _ _ _ _ _ st h => wpAny_pyIter_listiter st h
theorem turn_tuple {P : Program} {w : World} {K : PySem.W.Frag} {tg : Expr} (a it : Addr) : Turn P w K tg (Itt K a) [it] it (fun i h => h.IsTupleIter it a i) where
  mem := by simp
  obj := fun i h st b hb => by
    have e : b = it := by simpa using hb
    subst e
    obtain ⟨o, e, c, d⟩ := st
    exact ⟨o, e, fun v z => by rw [d] at z; cases z⟩
  keep := fun i h h' st k => st.at fun o e => k it (by simp) o e
  item := by
    intro X hP hw hK hc i pins s σ H E I hf st hg
    subst hP hw hK
    obtain ⟨xs, x, hq, hx⟩ := hg
    obtain ⟨its, rv, p, hz⟩ := I.tuple hq
    obtain ⟨u, hu, ru⟩ := rv.get hx
    obtain ⟨f0, f1, f2, f3, f4, f5⟩ := hf it (by simp)
    refine wpAny_pyNext_tuple_item st (show s.heap.IsTuple a its.toArray from p) (x := u) (by simpa using hu) fun h' st' sb => ?_
    have I1 : Inv X pins σ H { s with heap := h' } := I.turned (t' := s.toks) (fun b o hb e => (sb.2 b hb).trans e) f0 f1 f3 f4 f5
    obtain ⟨o, e, c, d⟩ := id st'
    exact ⟨u, rfl, go_of (s := { s with heap := h' }) e c d (by decide) ⟨x, H, I1, ru, ⟨rfl, fun ys hy => by rw [I.tuple_inj hy hq]; exact hx⟩, st', fun b hb => (hf b hb).1⟩⟩
  done := by
    intro X hP hw hK hc i pins s σ H E I hf st hg
    subst hP hw hK
    obtain ⟨xs, hq, hx⟩ := hg
    obtain ⟨its, rv, p, hz⟩ := I.tuple hq
    obtain ⟨f0, f1, f2, f3, f4, f5⟩ := hf it (by simp)
    have hl := rv.length
    exact wpAny_pyNext_tuple_end (I.ok.hd hc) st (show s.heap.IsTuple a its.toArray from p) (by simp; lia) fun h' eb => ⟨rfl, I.turned (t' := s.toks) (fun b o hb e => eb b o hb e) f0 f1 f3 f4 f5⟩
  self := fun _ _ _ _ _ st h => wpAny_pyIter_tupleiter st h
theorem turn_range {P : Program} {w : World} {K : PySem.W.Frag} {tg : Expr} (it : Addr) (lo : Int) (n : Nat) : Turn P w K tg (Itr lo n) [it] it (fun i h => IsRangeIter h it (lo + (i : Nat) * 1) ((n : Int) - (i : Nat)) 1) where
  mem := by simp
  obj := fun i h st b hb => by
    have e : b = it := by simpa using hb
    subst e
    exact ⟨_, st, fun v z => by
      have z' : Data.fields _ = Data.cell v := z
      cases z'⟩
  keep := fun i h h' st k => k it (by simp) _ st
  item := by
    intro X hP hw hK hc i pins s σ H E I hf st hg
    subst hP hw hK
    obtain ⟨f0, f1, f2, f3, f4, f5⟩ := hf it (by simp)
    have W := Walks.range (prog := X.prog) (w := X.w) (I.ok.hd hc) it lo 1 n
    refine W.item i s _ _ hg st fun v h' tk hv st' kk => ?_
    obtain ⟨t, rfl⟩ := hv
    have I1 : Inv X pins σ H { s with heap := h', toks := tk } := I.turned (fun b o hb e => kk b o (by simpa using hb) e) f0 f1 f3 f4 f5
    refine ⟨_, rfl, go_of (s := { s with heap := h', toks := tk }) (n := "range_iterator") st' rfl rfl (by decide) ⟨.int (lo + i), H, I1, ⟨t, ?_⟩, ⟨rfl, rfl⟩, st', fun b hb => (hf b hb).1⟩⟩
    rw [Int.mul_one]
  done := by
    intro X hP hw hK hc i pins s σ H E I hf st hg
    subst hP hw hK
    obtain ⟨f0, f1, f2, f3, f4, f5⟩ := hf it (by simp)
    exact wpAny_pyNext_range_end (I.ok.hd hc) st (by have : n <= i := hg; lia) fun h' eb => ⟨rfl, I.turned (t' := s.toks) (fun b o hb e => eb b o hb e) f0 f1 f3 f4 f5⟩
  self := fun _ _ _ _ _ st h => wpAny_pyIter_rangeiter st h
section
variable {X : Cx} {tg : Expr}
def iList (K : PySem.W.Frag) (tl : TE) : TI := fun σ H R => tl σ H fun x H1 => ∃ a, x = .ref a /\ (∃ xs, SqL K H1 a xs) /\ R (Itl K a) H1
def iTup (K : PySem.W.Frag) (tl : TE) : TI := fun σ H R => tl σ H fun x H1 => ∃ a, x = .ref a /\ (∃ xs, SqT K H1 a xs) /\ R (Itt K a) H1
theorem pi_list {l : Expr} {tl : TE} (hl : PE X l tl) : PI X tg l (iList X.K tl) := by
  intro pins s σ H R I h
  refine thn (hl pins s σ H _ I h) fun v s1 ⟨x, H1, I1, r1, q1⟩ => ?_
  obtain ⟨a, e, ⟨xs, hq⟩, q⟩ := q1
  subst e
  cases r1
  obtain ⟨its, rv, p, hz⟩ := I1.list hq
  refine wpAny_pyIter_list p.isList ?_
  refine ⟨s1.heap.objs.size, [s1.heap.objs.size], _, _, H1, rfl, I1.kept (t' := s1.toks) fun b o e => Heap.get?_push_of_some _ e, turn_list a _, ⟨_, Heap.get?_push_size _ rfl, rfl, rfl⟩, fun b hb => ?_, q⟩
  have e : b = s1.heap.objs.size := by simpa using hb
  subst e
  exact I1.fpOk (Nat.le_refl _) (I1.hok.fresh (Nat.le_refl _))
theorem pi_tup {l : Expr} {tl : TE} (hl : PE X l tl) : PI X tg l (iTup X.K tl) := by
  intro pins s σ H R I h
  refine thn (hl pins s σ H _ I h) fun v s1 ⟨x, H1, I1, r1, q1⟩ => ?_
  obtain ⟨a, e, ⟨xs, hq⟩, q⟩ := q1
  subst e
  cases r1
  obtain ⟨its, rv, p, hz⟩ := I1.tuple hq
  refine wpAny_pyIter_tuple (show s1.heap.IsTuple a its.toArray from p) ?_
  refine ⟨s1.heap.objs.size, [s1.heap.objs.size], _, _, H1, rfl, I1.kept (t' := s1.toks) fun b o e => Heap.get?_push_of_some _ e, turn_tuple a _, ⟨_, Heap.get?_push_size _ rfl, rfl, rfl⟩, fun b hb => ?_, q⟩
  have e : b = s1.heap.objs.size := by simpa using hb
  subst e
  exact I1.fpOk (Nat.le_refl _) (I1.hok.fresh (Nat.le_refl _))
theorem range_it {pins : List (Addr × Obj)} {σ : St} {H : Hp} {s : Shared} {R : It -> Hp -> Prop} {E : Value -> Shared -> Prop} {lo hi : Int} {t u v : Tok} {tk : Nat} (I : Inv X pins σ H s) (h1 : -(2 ^ 62) <= lo) (h2 : lo < 2 ^ 62) (h3 : -(2 ^ 62) <= hi) (h4 : hi < 2 ^ 62)
    (q : R (Itr lo (hi - lo).toNat) H) : wpAny (model X.prog X.w) X.A (pyIter (.ref s.heap.objs.size)) (PIE X pins σ tg R) E { s with heap := s.heap.push { cls := .type "range", data := .fields #[.int lo t, .int hi u, .int 1 v] }, toks := tk } := by
  refine wpAny_pyIter_range (IsRange.new ..) (small_one h1 h2 h3 h4) ?_
  have I1 : Inv X pins σ H { s with heap := s.heap.push { cls := .type "range", data := .fields #[.int lo t, .int hi u, .int 1 v] }, toks := tk } := I.kept fun b o e => Heap.get?_push_of_some _ e
  refine ⟨(s.heap.push { cls := .type "range", data := .fields #[.int lo t, .int hi u, .int 1 v] }).objs.size, [(s.heap.push { cls := .type "range", data := .fields #[.int lo t, .int hi u, .int 1 v] }).objs.size], _, _, H, rfl,
    I1.kept (t' := tk) fun b o e => Heap.get?_push_of_some _ e, turn_range _ lo (hi - lo).toNat, ?_, fun b hb => ?_, q⟩
  · have e1 : lo + ((0 : Nat) : Int) * 1 = lo := by simp
    have e2 : (((hi - lo).toNat : Nat) : Int) - ((0 : Nat) : Int) = Builtin.Range.rangeSize lo hi 1 := by rw [rangeSize_one]; split <;> lia
    show IsRangeIter _ _ (lo + ((0 : Nat) : Int) * 1) ((((hi - lo).toNat : Nat) : Int) - ((0 : Nat) : Int)) 1
    rw [e1, e2]
    exact Heap.get?_push_size _ rfl
  · have e : b = (s.heap.push { cls := .type "range", data := .fields #[.int lo t, .int hi u, .int 1 v] }).objs.size := by simpa using hb
    subst e
    exact I1.fpOk (Nat.le_refl _) (I1.hok.fresh (Nat.le_refl _))
def iRng1 (ta : TA) : TI := fun σ H R => ta σ H fun vs H1 => ∃ j : Int, vs = [.int j] /\ -(2 ^ 62) <= j /\ j < 2 ^ 62 /\ R (Itr 0 j.toNat) H1
theorem pi_range1 {a : Expr} {ta : TA} {p pos : Pos} (hg : Gl X "range") (hm : X.mg "range" = none) (ha : PA X [a] ta) (hs : starEach [a] X.env = [(false, eval a X.env)] := by rfl) : PI X tg (.Call (.Name "range" p) [a] [] pos) (iRng1 ta) := by
  intro pins s σ H R I h
  refine Call_ (ld_blt I hg hm boot_range (PyProof.Rows.callWith_type1 (thn (ha pos pins s σ H _ I h) fun us s1 ⟨vs, H1, I1, r1, q1⟩ => ?_) hs rfl))
  obtain ⟨j, e, q1, q2, q⟩ := q1
  subst e
  cases r1 with
  | cons r rr =>
    cases rr
    obtain ⟨t, rfl⟩ := r
    exact call_range_1 (range_it I1 (by lia) (by lia) q1 q2 (by simpa using q))
def tFor (wi : TI) (g : TG) (tb : TS) : TS := fun D σ H => wi σ H fun J H1 => ∃ W : Nat -> Nat -> St -> Hp -> Prop, (∃ m, W 0 m σ H1) /\ ∀ i m σ H, W i m σ H ->
  (J.stop i H /\ D.nx σ H) \/ (J.go i H /\ ∃ N : St -> Hp -> Prop, (∀ σ' H', N σ' H' -> ∃ m', m' < m /\ W (i + 1) m' σ' H') /\ ∀ x H', J.yld i H x H' -> g x σ H' fun σ2 H2 => tb { D with nx := N, ct := N, bk := D.nx } σ2 H2)
def pinsAt (fp : List Addr) (h : Heap) : List (Addr × Obj) := fp.filterMap fun b => (h.get? b).map fun o => (b, o)
theorem mem_pinsAt {fp : List Addr} {h : Heap} {b : Addr} {o : Obj} (hb : b ∈ fp) (e : h.get? b = some o) : (b, o) ∈ pinsAt fp h := List.mem_filterMap.mpr ⟨b, hb, by rw [e]; rfl⟩
theorem of_pinsAt {fp : List Addr} {h : Heap} {p : Addr × Obj} (hp : p ∈ pinsAt fp h) : p.1 ∈ fp /\ h.get? p.1 = some p.2 := by
  obtain ⟨b, hb, e⟩ := List.mem_filterMap.mp hp
  cases q : h.get? b with
  | none => rw [q] at e; cases e
  | some o =>
    rw [q] at e
    have e' : (b, o) = p := Option.some.inj e
    subst e'
    exact ⟨hb, q⟩
theorem Inv.pinned {pins : List (Addr × Obj)} {σ : St} {H : Hp} {s : Shared} {fp : List Addr} (I : Inv X pins σ H s) (hf : ∀ b ∈ fp, FpOk X pins H b) (ho : ∀ b ∈ fp, ∃ o, s.heap.get? b = some o /\ ∀ v, o.data ≠ .cell v) : Inv X (pins ++ pinsAt fp s.heap) σ H s :=
  I.pins_of fun p hp => (List.mem_append.mp hp).elim (fun z => I.pin p (List.mem_append_right _ z)) fun z => by
    obtain ⟨hb, e⟩ := of_pinsAt z
    obtain ⟨f0, f1, f2, _⟩ := hf p.1 hb
    obtain ⟨o, e', d⟩ := ho p.1 hb
    rw [e] at e'; cases e'
    exact ⟨e, f0, f1, f2, d⟩
theorem Inv.unpinned {pins pl : List (Addr × Obj)} {σ : St} {H : Hp} {s : Shared} (I : Inv X (pins ++ pl) σ H s) : Inv X pins σ H s := I.pins_of fun p hp => I.pin p (List.mem_append_right _ (List.mem_append_left _ hp))
theorem ps_for {iter : Expr} {body : List Stmt} {wi : TI} {g : TG} {tb : TS} {pos : Pos} (hp : PassesOwn (model X.prog X.w) X.A X.env X.xe) (hc : X.calm = true) (hi : PI X tg iter wi) (hg : PG X tg g) (hb : PSs X body tb)
    (hs : ∀ x, foldedSetIterable iter X.env x = pure x := by intro _; rfl) : PS X (.For tg iter body [] pos) (tFor wi g tb) := by
  intro pins s σ H D I h
  refine wpAny_For (thn (hi pins s σ H _ I h) fun v s1 h1 => thn h1 fun itv s2 h2 => ?_) hs
  obtain ⟨it, fp, tn, J, H2, e, I2, T, st2, f2, W, ⟨m0, w0⟩, turn⟩ := h2
  subst e
  have stat : ∀ {H' : Hp}, (∀ b ∈ fp, H' b = none) -> ∀ b ∈ fp, FpOk X pins H' b := fun hn b hb => ⟨hn b hb, (f2 b hb).2⟩
  refine codeAny_forLoop_any (fun n s' => ∃ i σ' H', Inv X pins σ' H' s' /\ tn i s'.heap /\ (∀ b ∈ fp, H' b = none) /\ W i n σ' H') ?_ m0 ⟨0, σ, H2, I2, st2, fun b hb => (f2 b hb).1, w0⟩
  rintro n s3 ⟨i, σ3, H3, I3, st3, fr3, w3⟩
  rcases turn i n σ3 H3 w3 with ⟨stop, qn⟩ | ⟨go, N, hN, step⟩
  · refine wpAny_passesOwn hp (thn (T.done X rfl rfl rfl hc i pins s3 σ3 H3 X.xe I3 (stat fr3) st3 stop) fun r s4 ⟨hr, I4⟩ => ?_)
    subst hr
    exact wpAny_execs_nil ⟨σ3, H3, I4, qn⟩
  · refine wpAny_passesOwn hp (thn (T.item X rfl rfl rfl hc i pins s3 σ3 H3 X.xe I3 (stat fr3) st3 go) fun r s4 ⟨u, hr, h4⟩ => ?_)
    subst hr
    refine wpAny_passesOwn hp (thn h4 fun _ s5 ⟨x, H5, I5, r5, y5, st5, fr5⟩ => ?_)
    have I5' := I5.pinned (stat fr5) (T.obj _ _ st5)
    refine wpAny_passesOwn hp (thn (hg _ s5 σ3 H5 x u _ I5' r5 (step x H5 y5)) fun _ s6 ⟨σ6, H6, I6, q6⟩ => ?_)
    refine wpAny_passesOwn hp (thn (hb _ s6 σ6 H6 _ I6 q6) fun f s7 q7 => ?_)
    have again : ∀ {σ7 : St} {H7 : Hp}, Inv X (pins ++ pinsAt fp s5.heap) σ7 H7 s7 -> N σ7 H7 -> ∃ m, m < n /\ ∃ i σ' H', Inv X pins σ' H' s7 /\ tn i s7.heap /\ (∀ b ∈ fp, H' b = none) /\ W i m σ' H' := fun {σ7 H7} I7 n7 => by
      obtain ⟨m', hm, w7⟩ := hN σ7 H7 n7
      refine ⟨m', hm, i + 1, σ7, H7, I7.unpinned, T.keep _ _ _ st5 fun b hb o e => (I7.pin (b, o) (List.mem_append_right _ (List.mem_append_right _ (mem_pinsAt hb e)))).1, fun b hb => ?_, w7⟩
      obtain ⟨o, e, d⟩ := T.obj _ _ st5 b hb
      exact (I7.pin (b, o) (List.mem_append_right _ (List.mem_append_right _ (mem_pinsAt hb e)))).2.1
    cases f with
    | next => obtain ⟨σ7, H7, I7, n7⟩ := q7; exact again I7 n7
    | cont => obtain ⟨σ7, H7, I7, n7⟩ := q7; exact again I7 n7
    | brk => obtain ⟨σ7, H7, I7, q7⟩ := q7; exact ⟨σ7, H7, I7.unpinned, q7⟩
    | ret v => obtain ⟨x7, σ7, H7, I7, r7, q7⟩ := q7; exact ⟨x7, σ7, H7, I7.unpinned, r7, q7⟩
end
theorem for_list {K : PySem.W.Frag} {a : Addr} {xs : List V} {g : TG} {tb : TS} {D : Ends} {σ : St} {H : Hp} (Pv : Nat -> St -> Hp -> Prop) (h0 : Pv 0 σ H) (hl : ∀ i σ H, i <= xs.length -> Pv i σ H -> SqL K H a xs)
    (hs : ∀ i x σ H, xs[i]? = some x -> Pv i σ H -> g x σ H fun σ2 H2 => tb { D with nx := Pv (i + 1), ct := Pv (i + 1), bk := D.nx } σ2 H2) (hd : ∀ σ H, Pv xs.length σ H -> D.nx σ H) :
    ∃ W : Nat -> Nat -> St -> Hp -> Prop, (∃ m, W 0 m σ H) /\ ∀ i m σ H, W i m σ H ->
      ((Itl K a).stop i H /\ D.nx σ H) \/ ((Itl K a).go i H /\ ∃ N : St -> Hp -> Prop, (∀ σ' H', N σ' H' -> ∃ m', m' < m /\ W (i + 1) m' σ' H') /\ ∀ x H', (Itl K a).yld i H x H' -> g x σ H' fun σ2 H2 => tb { D with nx := N, ct := N, bk := D.nx } σ2 H2) := by
  refine ⟨fun i m σ H => m = xs.length - i /\ i <= xs.length /\ Pv i σ H, ⟨xs.length, by simp, Nat.zero_le _, h0⟩, ?_⟩
  rintro i m σ H ⟨rfl, hi, p⟩
  have q := hl i σ H hi p
  by_cases hlt : i < xs.length
  · refine .inr ⟨⟨xs, xs[i], q, by simp [hlt]⟩, Pv (i + 1), fun σ' H' p' => ⟨xs.length - (i + 1), by lia, rfl, hlt, p'⟩, fun x H' y => ?_⟩
    obtain ⟨e, y⟩ := y
    subst e
    exact hs i x σ _ (y xs q) p
  · have e : i = xs.length := by lia
    subst e
    exact .inl ⟨⟨xs, q, Nat.le_refl _⟩, hd σ H p⟩
theorem for_tup {K : PySem.W.Frag} {a : Addr} {xs : List V} {g : TG} {tb : TS} {D : Ends} {σ : St} {H : Hp} (Pv : Nat -> St -> Hp -> Prop) (h0 : Pv 0 σ H) (hl : ∀ i σ H, i <= xs.length -> Pv i σ H -> SqT K H a xs)
    (hs : ∀ i x σ H, xs[i]? = some x -> Pv i σ H -> g x σ H fun σ2 H2 => tb { D with nx := Pv (i + 1), ct := Pv (i + 1), bk := D.nx } σ2 H2) (hd : ∀ σ H, Pv xs.length σ H -> D.nx σ H) :
    ∃ W : Nat -> Nat -> St -> Hp -> Prop, (∃ m, W 0 m σ H) /\ ∀ i m σ H, W i m σ H ->
      ((Itt K a).stop i H /\ D.nx σ H) \/ ((Itt K a).go i H /\ ∃ N : St -> Hp -> Prop, (∀ σ' H', N σ' H' -> ∃ m', m' < m /\ W (i + 1) m' σ' H') /\ ∀ x H', (Itt K a).yld i H x H' -> g x σ H' fun σ2 H2 => tb { D with nx := N, ct := N, bk := D.nx } σ2 H2) := by
  refine ⟨fun i m σ H => m = xs.length - i /\ i <= xs.length /\ Pv i σ H, ⟨xs.length, by simp, Nat.zero_le _, h0⟩, ?_⟩
  rintro i m σ H ⟨rfl, hi, p⟩
  have q := hl i σ H hi p
  by_cases hlt : i < xs.length
  · refine .inr ⟨⟨xs, xs[i], q, by simp [hlt]⟩, Pv (i + 1), fun σ' H' p' => ⟨xs.length - (i + 1), by lia, rfl, hlt, p'⟩, fun x H' y => ?_⟩
    obtain ⟨e, y⟩ := y
    subst e
    exact hs i x σ _ (y xs q) p
  · have e : i = xs.length := by lia
    subst e
    exact .inl ⟨⟨xs, q, Nat.le_refl _⟩, hd σ H p⟩
theorem for_range {lo : Int} {n : Nat} {g : TG} {tb : TS} {D : Ends} {σ : St} {H : Hp} (Pv : Nat -> St -> Hp -> Prop) (h0 : Pv 0 σ H)
    (hs : ∀ i σ H, i < n -> Pv i σ H -> g (.int (lo + i)) σ H fun σ2 H2 => tb { D with nx := Pv (i + 1), ct := Pv (i + 1), bk := D.nx } σ2 H2) (hd : ∀ σ H, Pv n σ H -> D.nx σ H) :
    ∃ W : Nat -> Nat -> St -> Hp -> Prop, (∃ m, W 0 m σ H) /\ ∀ i m σ H, W i m σ H ->
      ((Itr lo n).stop i H /\ D.nx σ H) \/ ((Itr lo n).go i H /\ ∃ N : St -> Hp -> Prop, (∀ σ' H', N σ' H' -> ∃ m', m' < m /\ W (i + 1) m' σ' H') /\ ∀ x H', (Itr lo n).yld i H x H' -> g x σ H' fun σ2 H2 => tb { D with nx := N, ct := N, bk := D.nx } σ2 H2) := by
  refine ⟨fun i m σ H => m = n - i /\ i <= n /\ Pv i σ H, ⟨n, by simp, Nat.zero_le _, h0⟩, ?_⟩
  rintro i m σ H ⟨rfl, hi, p⟩
  by_cases hlt : i < n
  · refine .inr ⟨hlt, Pv (i + 1), fun σ' H' p' => ⟨n - (i + 1), by lia, rfl, hlt, p'⟩, fun x H' y => ?_⟩
    obtain ⟨e, y⟩ := y
    subst e y
    exact hs i σ _ hlt p
  · have e : i = n := by lia
    subst e
    exact .inl ⟨Nat.le_refl _, hd σ H p⟩
abbrev R2 := V -> V -> Hp -> VK -> Prop
def OpR (X : Cx) (f : Value -> Value -> Sem Value) (r : R2) : Prop :=
  ∀ (pins : List (Addr × Obj)) (s : Shared) (σ : St) (H : Hp) (x y : V) (v u : Value) (Q : VK), Inv X pins σ H s -> RelV x v -> RelV y u -> r x y H Q ->
    wpAny (model X.prog X.w) X.A (f v u) (EP X pins σ Q) X.xe s
def UnR (X : Cx) (f : Value -> Sem Value) (r : V -> Hp -> VK -> Prop) : Prop :=
  ∀ (pins : List (Addr × Obj)) (s : Shared) (σ : St) (H : Hp) (x : V) (v : Value) (Q : VK), Inv X pins σ H s -> RelV x v -> r x H Q ->
    wpAny (model X.prog X.w) X.A (f v) (EP X pins σ Q) X.xe s
def CallR (X : Cx) (f : Value) (r : List V -> Hp -> VK -> Prop) : Prop :=
  ∀ (pins : List (Addr × Obj)) (s : Shared) (σ : St) (H : Hp) (xs : List V) (us : List Value) (Q : VK), Inv X pins σ H s -> Vals xs us -> r xs H Q ->
    wpAny (model X.prog X.w) X.A (call f us) (EP X pins σ Q) X.xe s
def TruR (X : Cx) (r : V -> Hp -> (Bool -> Hp -> Prop) -> Prop) : Prop :=
  ∀ (pins : List (Addr × Obj)) (s : Shared) (σ : St) (H : Hp) (x : V) (v : Value) (Q : Bool -> Hp -> Prop), Inv X pins σ H s -> RelV x v -> r x H Q ->
    wpAny (model X.prog X.w) X.A (truthy v) (TP X pins σ Q) X.xe s
def tOp (r : R2) (ta tb : TE) : TE := fun σ H Q => ta σ H fun x H1 => tb σ H1 fun y H2 => r x y H2 Q
def tUn (r : V -> Hp -> VK -> Prop) (ta : TE) : TE := fun σ H Q => ta σ H fun x H1 => r x H1 Q
def rI (C : Int -> Int -> Prop) (g : Int -> Int -> V) : R2 := fun x y H Q => ∃ i j, x = .int i /\ y = .int j /\ C i j /\ Q (g i j) H
def rI0 (g : Int -> Int -> V) : R2 := fun x y H Q => ∃ i j, x = .int i /\ y = .int j /\ Q (g i j) H
def rU (g : Int -> V) : V -> Hp -> VK -> Prop := fun x H Q => ∃ i, x = .int i /\ Q (g i) H
section
variable {X : Cx} {a b c : Expr} {ta tb tc : TE} {pos : Pos}
theorem binT (ha : PE X a ta) (hb : PE X b tb) {pins : List (Addr × Obj)} {s : Shared} {σ : St} {H : Hp} {R : V -> V -> Hp -> Prop} (I : Inv X pins σ H s)
    (h : ta σ H fun x H1 => tb σ H1 fun y H2 => R x y H2) {Q : Value -> Shared -> Prop} {f : Value -> Value -> Sem Value}
    (hf : ∀ v u s2 x y H2, Inv X pins σ H2 s2 -> RelV x v -> RelV y u -> R x y H2 -> wpAny (model X.prog X.w) X.A (f v u) Q X.xe s2) :
    wpAny (model X.prog X.w) X.A (eval a X.env) (fun v s₁ => wpAny (model X.prog X.w) X.A (eval b X.env) (fun u s₂ => wpAny (model X.prog X.w) X.A (f v u) Q X.xe s₂) X.xe s₁) X.xe s := by
  refine thn (ha pins s σ H _ I h) fun v s1 ⟨x, H1, I1, r1, q1⟩ => ?_
  refine thn (hb pins s1 σ H1 _ I1 q1) fun u s2 ⟨y, H2, I2, r2, q2⟩ => ?_
  exact hf v u s2 x y H2 I2 r1 r2 q2
theorem pe_op {op : Operator} {r : R2} (ho : OpR X (binaryOp op) r) (ha : PE X a ta) (hb : PE X b tb) : PE X (.BinOp a op b pos) (tOp r ta tb) := by
  intro pins s σ H Q I h
  exact wpAny_BinOp (binT ha hb I h fun v u s2 x y H2 I2 rx ry q => ho pins s2 σ H2 x y v u Q I2 rx ry q)
theorem pe_un {op : UnaryOp} {r : V -> Hp -> VK -> Prop} (ho : UnR X (unaryOp op) r) (ha : PE X a ta) : PE X (.UnaryOp op a pos) (tUn r ta) := by
  intro pins s σ H Q I h
  exact UnaryOp_ (thn (ha pins s σ H _ I h) fun v s1 ⟨x, H1, I1, r1, q1⟩ => ho pins s1 σ H1 x v Q I1 r1 q1)
theorem opI {f : Value -> Value -> Sem Value} {C : Int -> Int -> Prop} {g : Int -> Int -> Int}
    (rule : ∀ (i j : Int) (t u : Tok) (s : Shared) (Q : Value -> Shared -> Prop) (E : Value -> Shared -> Prop), C i j -> Q (.int (g i j) s.toks) { s with toks := s.toks + 1 } -> wpAny (model X.prog X.w) X.A (f (.int i t) (.int j u)) Q E s) :
    OpR X f (rI C fun i j => .int (g i j)) := by
  intro pins s σ H x y v u Q I rx ry h
  obtain ⟨i, j, rfl, rfl, hc, q⟩ := h
  obtain ⟨t, rfl⟩ := rx
  obtain ⟨t', rfl⟩ := ry
  exact rule i j t t' s _ _ hc ⟨.int (g i j), H, I.tok _, ⟨_, rfl⟩, q⟩
theorem opI0 {f : Value -> Value -> Sem Value} {g : Int -> Int -> Int}
    (rule : ∀ (i j : Int) (t u : Tok) (s : Shared) (Q : Value -> Shared -> Prop) (E : Value -> Shared -> Prop), Q (.int (g i j) s.toks) { s with toks := s.toks + 1 } -> wpAny (model X.prog X.w) X.A (f (.int i t) (.int j u)) Q E s) :
    OpR X f (rI0 fun i j => .int (g i j)) := by
  intro pins s σ H x y v u Q I rx ry h
  obtain ⟨i, j, rfl, rfl, q⟩ := h
  obtain ⟨t, rfl⟩ := rx
  obtain ⟨t', rfl⟩ := ry
  exact rule i j t t' s _ _ ⟨.int (g i j), H, I.tok _, ⟨_, rfl⟩, q⟩
theorem opB0 {f : Value -> Value -> Sem Value} {g : Int -> Int -> Bool}
    (rule : ∀ (i j : Int) (t u : Tok) (s : Shared) (Q : Value -> Shared -> Prop) (E : Value -> Shared -> Prop), Q (.bool (g i j)) s -> wpAny (model X.prog X.w) X.A (f (.int i t) (.int j u)) Q E s) :
    OpR X f (rI0 fun i j => .bl (g i j)) := by
  intro pins s σ H x y v u Q I rx ry h
  obtain ⟨i, j, rfl, rfl, q⟩ := h
  obtain ⟨t, rfl⟩ := rx
  obtain ⟨t', rfl⟩ := ry
  exact rule i j t t' s _ _ ⟨.bl (g i j), H, I, rfl, q⟩
def CDiv (i j : Int) : Prop := 0 < j /\ j < 1073741824
def CMul (i j : Int) : Prop := (-(2 ^ 64) < i /\ i < 2 ^ 64) \/ (-(2 ^ 64) < j /\ j < 2 ^ 64)
theorem CMul.ok {i j : Int} (h : CMul i j) : IntMulOk i j := by
  rcases h with ⟨h1, h2⟩ | ⟨h1, h2⟩
  · exact .of_left (intBits_le_64 h1 h2)
  · exact .of_right (intBits_le_64 h1 h2)
theorem two_pow_nn (k : Nat) : (0 : Int) <= 2 ^ k := by
  rw [two_pow_cast]
  exact Int.natCast_nonneg _
theorem op_add : OpR X (binaryOp .Add) (rI0 fun i j => .int (i + j)) := opI0 fun _ _ _ _ _ _ _ q => add_int q
theorem op_sub : OpR X (binaryOp .Sub) (rI0 fun i j => .int (i - j)) := opI0 fun _ _ _ _ _ _ _ q => sub_int q
theorem op_mul : OpR X (binaryOp .Mult) (rI CMul fun i j => .int (i * j)) := opI fun _ _ _ _ _ _ _ hc q => mul_int q hc.ok
theorem op_fdiv : OpR X (binaryOp .FloorDiv) (rI CDiv fun i j => .int (i / j)) := opI fun i j _ _ _ _ _ hc q => by
  have h1 : (0 : Int) < j := hc.1
  have h2 : j < 1073741824 := hc.2
  exact floordiv_int (by lia) (by rw [Int.fdiv_eq_ediv_of_nonneg i (by lia)]; exact q) (.inl (PyProof.noPylong_small (by lia)))
theorem op_mod : OpR X (binaryOp .Mod) (rI (fun _ j => 0 < j) fun i j => .int (i % j)) := opI fun i j _ _ _ _ _ hc q => by
  have h1 : (0 : Int) < j := hc
  exact mod_int' (by lia) (by rw [Int.fmod_eq_emod_of_nonneg i (by lia)]; exact q)
theorem op_shr : OpR X (binaryOp .RShift) (rI (fun _ j => 0 <= j) fun i j => .int (i / 2 ^ j.toNat)) := opI fun i j _ _ _ _ _ hc q =>
  rshift_int hc (by rw [Int.fdiv_eq_ediv_of_nonneg i (two_pow_nn _)]; exact q)
theorem op_and : OpR X (binaryOp .BitAnd) (rI0 fun i j => .int (Builtin.bitAnd i j)) := opI0 fun _ _ _ _ _ _ _ q => and_int q
theorem op_xor : OpR X (binaryOp .BitXor) (rI0 fun i j => .int (Builtin.bitXor i j)) := opI0 fun _ _ _ _ _ _ _ q => xor_int q
theorem unI {f : Value -> Sem Value} {g : Int -> Int}
    (rule : ∀ (i : Int) (t : Tok) (s : Shared) (Q : Value -> Shared -> Prop) (E : Value -> Shared -> Prop), Q (.int (g i) s.toks) { s with toks := s.toks + 1 } -> wpAny (model X.prog X.w) X.A (f (.int i t)) Q E s) :
    UnR X f (rU fun i => .int (g i)) := by
  intro pins s σ H x v Q I rx h
  obtain ⟨i, rfl, q⟩ := h
  obtain ⟨t, rfl⟩ := rx
  exact rule i t s _ _ ⟨.int (g i), H, I.tok _, ⟨_, rfl⟩, q⟩
theorem un_neg : UnR X (unaryOp .USub) (rU fun i => .int (-i)) := unI fun _ _ _ _ _ q => neg_int q
end
def scal : V -> V -> Bool
  | .non, .non => true | .non, .int _ => true | .int _, .non => true | .non, .bl _ => true | .bl _, .non => true | .non, .str _ => true | .str _, .non => true
  | .int _, .int _ => true | .bl _, .bl _ => true | .str _, .str _ => true | .byt _, .byt _ => true
  | .int _, .str _ => true | .str _, .int _ => true | .bl _, .str _ => true | .str _, .bl _ => true
  | _, _ => false
def rEq : R2 := fun x y H Q => scal x y = true /\ Q (.bl (decide (x = y))) H
def rNe : R2 := fun x y H Q => scal x y = true /\ Q (.bl (!decide (x = y))) H
theorem dec_int {i j : Int} : decide (V.int i = V.int j) = (i == j) := by
  rw [Bool.eq_iff_iff]
  simp
theorem dec_bl {i j : Bool} : decide (V.bl i = V.bl j) = (i == j) := by
  rw [Bool.eq_iff_iff]
  simp
theorem dec_str {i j : Str} : decide (V.str i = V.str j) = (i == j) := by
  rw [Bool.eq_iff_iff]
  simp
theorem dec_byt {i j : Array UInt8} : decide (V.byt i = V.byt j) = (i.toList == j.toList) := by
  rw [Bool.eq_iff_iff]
  cases i
  cases j
  simp
section
variable {X : Cx} {a b c : Expr} {ta tb tc : TE} {pos : Pos}
theorem fin_bl {pins : List (Addr × Obj)} {σ : St} {H : Hp} {s : Shared} {Q : VK} {k k' : Bool} (I : Inv X pins σ H s) (q : Q (.bl k) H) (e : k = k') : EP X pins σ Q (.bool k') s := by
  subst e
  exact ⟨.bl k, H, I, rfl, q⟩
theorem op_eq : OpR X (compareOp .Eq) rEq := by
  intro pins s σ H x y v u Q I rx ry h
  obtain ⟨hs, q⟩ := h
  cases x with
  | non =>
    cases rx
    cases y with
    | non => cases ry; exact PySem.EqNone.eq_none_none (fin_bl I q (by simp))
    | bl j => cases ry; exact PySem.EqNone.eq_none_bool (fin_bl I q (by simp))
    | int j => obtain ⟨t', rfl⟩ := ry; exact PySem.EqNone.eq_none_int (fin_bl I q (by simp))
    | str j => obtain ⟨t', rfl⟩ := ry; exact PySem.EqNone.eq_none_str (fin_bl I q (by simp))
    | _ => exact absurd (show false = true from hs) Bool.false_ne_true
  | bl i =>
    cases rx
    cases y with
    | non => cases ry; exact PySem.EqNone.eq_bool_none (fin_bl I q (by simp))
    | bl j => cases ry; exact eq_bool (fin_bl I q dec_bl)
    | str j => obtain ⟨t', rfl⟩ := ry; exact PySem.EqMixed.eq_bool_str (fin_bl I q (by simp))
    | _ => exact absurd (show false = true from hs) Bool.false_ne_true
  | int i =>
    obtain ⟨t, rfl⟩ := rx
    cases y with
    | non => cases ry; exact PySem.EqNone.eq_int_none (fin_bl I q (by simp))
    | int j => obtain ⟨t', rfl⟩ := ry; exact eq_int (fin_bl I q dec_int)
    | str j => obtain ⟨t', rfl⟩ := ry; exact PySem.EqMixed.eq_int_str (fin_bl I q (by simp))
    | _ => exact absurd (show false = true from hs) Bool.false_ne_true
  | str i =>
    obtain ⟨t, rfl⟩ := rx
    cases y with
    | non => cases ry; exact PySem.EqNone.eq_str_none (fin_bl I q (by simp))
    | bl j => cases ry; exact PySem.EqMixed.eq_str_bool (fin_bl I q (by simp))
    | int j => obtain ⟨t', rfl⟩ := ry; exact PySem.EqMixed.eq_str_int (fin_bl I q (by simp))
    | str j => obtain ⟨t', rfl⟩ := ry; exact eq_str (fin_bl I q dec_str)
    | _ => exact absurd (show false = true from hs) Bool.false_ne_true
  | byt i =>
    obtain ⟨t, rfl⟩ := rx
    cases y with
    | byt j => obtain ⟨t', rfl⟩ := ry; exact PySem.W.eq_bytes (fin_bl I q dec_byt)
    | _ => exact absurd (show false = true from hs) Bool.false_ne_true
  | _ => cases y <;> exact absurd (show false = true from hs) Bool.false_ne_true
theorem op_ne : OpR X (compareOp .NotEq) rNe := by
  intro pins s σ H x y v u Q I rx ry h
  obtain ⟨hs, q⟩ := h
  cases x with
  | non =>
    cases rx
    cases y with
    | non => cases ry; exact PySem.EqNone.ne_none_none (fin_bl I q (by simp))
    | bl j => cases ry; exact PySem.EqNone.ne_none_bool (fin_bl I q (by simp))
    | int j => obtain ⟨t', rfl⟩ := ry; exact PySem.EqNone.ne_none_int (fin_bl I q (by simp))
    | str j => obtain ⟨t', rfl⟩ := ry; exact PySem.EqNone.ne_none_str (fin_bl I q (by simp))
    | _ => exact absurd (show false = true from hs) Bool.false_ne_true
  | bl i =>
    cases rx
    cases y with
    | non => cases ry; exact PySem.EqNone.ne_bool_none (fin_bl I q (by simp))
    | bl j => cases ry; exact ne_bool (fin_bl I q (congrArg not dec_bl))
    | str j => obtain ⟨t', rfl⟩ := ry; exact PySem.EqMixed.ne_bool_str (fin_bl I q (by simp))
    | _ => exact absurd (show false = true from hs) Bool.false_ne_true
  | int i =>
    obtain ⟨t, rfl⟩ := rx
    cases y with
    | non => cases ry; exact PySem.EqNone.ne_int_none (fin_bl I q (by simp))
    | int j => obtain ⟨t', rfl⟩ := ry; exact ne_int (fin_bl I q (congrArg not dec_int))
    | str j => obtain ⟨t', rfl⟩ := ry; exact PySem.EqMixed.ne_int_str (fin_bl I q (by simp))
    | _ => exact absurd (show false = true from hs) Bool.false_ne_true
  | str i =>
    obtain ⟨t, rfl⟩ := rx
    cases y with
    | non => cases ry; exact PySem.EqNone.ne_str_none (fin_bl I q (by simp))
    | bl j => cases ry; exact PySem.EqMixed.ne_str_bool (fin_bl I q (by simp))
    | int j => obtain ⟨t', rfl⟩ := ry; exact PySem.EqMixed.ne_str_int (fin_bl I q (by simp))
    | str j => obtain ⟨t', rfl⟩ := ry; exact ne_str (fin_bl I q (congrArg not dec_str))
    | _ => exact absurd (show false = true from hs) Bool.false_ne_true
  | byt i =>
    obtain ⟨t, rfl⟩ := rx
    cases y with
    | byt j => obtain ⟨t', rfl⟩ := ry; exact PySem.W.ne_bytes (fin_bl I q (congrArg not dec_byt))
    | _ => exact absurd (show false = true from hs) Bool.false_ne_true
  | _ => cases y <;> exact absurd (show false = true from hs) Bool.false_ne_true
theorem op_lt : OpR X (compareOp .Lt) (rI0 fun i j => .bl (decide (i < j))) := opB0 fun _ _ _ _ _ _ _ q => lt_int q
theorem op_le : OpR X (compareOp .LtE) (rI0 fun i j => .bl (decide (i <= j))) := opB0 fun _ _ _ _ _ _ _ q => le_int q
theorem nomark (b : Expr) {op : CmpOp} (h : op ≠ .In := by decide) (h2 : op ≠ .NotIn := by decide) : behindInMarks op b = false := by
  have e1 : (op == CmpOp.In) = false := by cases op <;> first | rfl | exact absurd rfl h
  have e2 : (op == CmpOp.NotIn) = false := by cases op <;> first | rfl | exact absurd rfl h2
  cases b <;> simp [behindInMarks, e1, e2]
theorem pe_cmpR {op : CmpOp} {r : R2} (ho : OpR X (compareOp op) r) (ha : PE X a ta) (hb : PE X b tb) (hm : behindInMarks op b = false) : PE X (.Compare a [op] [b] pos) (tOp r ta tb) := by
  intro pins s σ H Q I h
  exact wpAny_Compare1 (binT ha hb I h fun v u s2 x y H2 I2 rx ry q => ho pins s2 σ H2 x y v u Q I2 rx ry q) hm
def tTest (t : TE) : TT := fun σ H Q => t σ H fun x H' => ∃ k, x = .bl k /\ Q k H'
theorem pt_cmpR {op : CmpOp} {r : R2} (ho : OpR X (compareOp op) r) (ha : PE X a ta) (hb : PE X b tb) (hm : behindInMarks op b = false) : PT X (.Compare a [op] [b] pos) (tTest (tOp r ta tb)) := by
  intro pins s σ H Q I h
  refine wpAny_isTrue_Compare1 (thn (ha pins s σ H _ I h) fun v s1 ⟨x, H1, I1, r1, q1⟩ => thn (hb pins s1 σ H1 _ I1 q1) fun u s2 ⟨y, H2, I2, r2, q2⟩ =>
    thn (ho pins s2 σ H2 x y v u _ I2 r1 r2 q2) fun c s3 ⟨z, H3, I3, r3, k, e, q3⟩ => ?_) hm
  subst e
  cases r3
  exact wpAny_truthy_bool ⟨H3, I3, q3⟩
def TruV (K : PySem.W.Frag) (x : V) (H : Hp) (k : Bool) : Prop :=
  match x with
  | .non => k = false
  | .bl b => k = b
  | .int i => k = (i != 0)
  | .str y => y.length <= sizeLine /\ k = ((y.length : Int) != 0)
  | .byt y => y.size <= sizeLine /\ k = ((y.size : Int) != 0)
  | .ref p => (∃ xs, SqL K H p xs /\ k = !xs.isEmpty) \/ (∃ xs, SqT K H p xs /\ k = !xs.isEmpty) \/ ∃ kvs, H p = some (.dK kvs) /\ k = !kvs.isEmpty
  | _ => False
theorem isEmpty_kv {κ : Type} {kvs : List (κ × V)} {vs : List (κ × Value)} (r : KV kvs vs) : (!vs.isEmpty) = !kvs.isEmpty := by
  cases r <;> rfl
theorem isEmpty_of {xs : List V} {its : List Value} (r : Vals xs its) : (!its.toArray.isEmpty) = !xs.isEmpty := by
  cases r <;> simp
theorem line63 : (sizeLine : Nat) < 2 ^ 63 := by rw [sizeLine_eq]; decide
theorem tru_ok : TruR X (fun x H Q => ∃ k, TruV X.K x H k /\ Q k H) := by
  intro pins s σ H x v Q I rx h
  obtain ⟨k, e, q⟩ := h
  have hl := line63
  have hs : sizeLine = 16777216 := sizeLine_eq
  cases x with
  | non =>
    cases rx
    have e' : k = false := e
    subst e'
    exact truthy_none ⟨H, I, q⟩
  | bl b =>
    cases rx
    have e' : k = b := e
    subst e'
    exact wpAny_truthy_bool ⟨H, I, q⟩
  | int i =>
    obtain ⟨t, rfl⟩ := rx
    have e' : k = (i != 0) := e
    subst e'
    exact PySem.P.truthy_int ⟨H, I, q⟩
  | str y =>
    obtain ⟨t, rfl⟩ := rx
    obtain ⟨hy, e'⟩ : y.length <= sizeLine /\ k = ((y.length : Int) != 0) := e
    subst e'
    exact PySem.P.truthy_str (by lia) ⟨H, I.tok _, q⟩
  | byt y =>
    obtain ⟨t, rfl⟩ := rx
    obtain ⟨hy, e'⟩ : y.size <= sizeLine /\ k = ((y.size : Int) != 0) := e
    subst e'
    exact PySem.W.truthy_bytes (by lia) ⟨H, I.tok _, q⟩
  | ref p =>
    cases rx
    have e' : (∃ xs, SqL X.K H p xs /\ k = !xs.isEmpty) \/ (∃ xs, SqT X.K H p xs /\ k = !xs.isEmpty) \/ ∃ kvs, H p = some (.dK kvs) /\ k = !kvs.isEmpty := e
    rcases e' with ⟨xs, hx, e'⟩ | ⟨xs, hx, e'⟩ | ⟨kvs, hx, e'⟩
    · subst e'
      obtain ⟨its, r, pl, hz⟩ := I.list hx
      have hlen := r.length
      exact wpAny_truthy_list pl.isList (by simp only [List.size_toArray]; lia) ⟨H, I.tok _, by rw [isEmpty_of r]; exact q⟩
    · subst e'
      obtain ⟨its, r, pl, hz⟩ := I.tuple hx
      have hlen := r.length
      exact truthy_tuple pl (by simp only [List.size_toArray]; lia) ⟨H, I.tok _, by rw [isEmpty_of r]; exact q⟩
    · subst e'
      obtain ⟨hz, hS, vs, r, m⟩ : kvs.length <= sizeLine /\ (p == sysModules) = false /\ ∃ vs, KV kvs vs /\ s.heap.DictOf (mixKind X.prog X.w) p vs := I.hok p _ hx
      have hlen : kvs.length = vs.length := Paired.length r
      exact wpAny_truthy_dict hS m (by lia) ⟨H, I.tok _, by rw [isEmpty_kv r]; exact q⟩
  | _ => exact (show False from e).elim
theorem pt_truth (ha : PE X a ta) (he : ∀ whole, isTrue a X.env whole = (do let v <- whole; standAt a.pos; holding [v] (truthy v))) :
    PT X a (fun σ H Q => ta σ H fun x H' => ∃ k, TruV X.K x H' k /\ Q k H') := by
  intro pins s σ H Q I h
  exact isTrue_plain (thn (ha pins s σ H _ I h) fun v s1 ⟨x, H1, I1, r1, q1⟩ => tru_ok pins s1 σ H1 x v Q I1 r1 q1) (he _)
theorem vals1 {x : V} {us : List Value} (r : Vals [x] us) : ∃ u, us = [u] /\ RelV x u := by
  cases r with
  | cons r1 r2 => cases r2; exact ⟨_, rfl, r1⟩
theorem vals2 {x y : V} {us : List Value} (r : Vals [x, y] us) : ∃ u w', us = [u, w'] /\ RelV x u /\ RelV y w' := by
  cases r with
  | cons r1 r2 =>
    cases r2 with
    | cons r3 r4 => cases r4; exact ⟨_, _, rfl, r1, r3⟩
theorem call_max2 (hc : X.calm = true) : CallR X (.builtin "max") (fun xs H Q => ∃ i j, xs = [.int i, .int j] /\ Q (.int (if j > i then j else i)) H) := by
  intro pins s σ H xs us Q I r h
  obtain ⟨i, j, rfl, q⟩ := h
  obtain ⟨u, w', rfl, ⟨t, rfl⟩, ⟨t', rfl⟩⟩ := vals2 r
  refine max_two_ints (I.ok.hd hc) fun h' tk k => ⟨_, H, I.kept k, ?_, q⟩
  by_cases hj : j > i
  · rw [if_pos hj, if_pos hj]; exact ⟨_, rfl⟩
  · rw [if_neg hj, if_neg hj]; exact ⟨_, rfl⟩
theorem call_min2 (hc : X.calm = true) : CallR X (.builtin "min") (fun xs H Q => ∃ i j, xs = [.int i, .int j] /\ Q (.int (if j < i then j else i)) H) := by
  intro pins s σ H xs us Q I r h
  obtain ⟨i, j, rfl, q⟩ := h
  obtain ⟨u, w', rfl, ⟨t, rfl⟩, ⟨t', rfl⟩⟩ := vals2 r
  refine min_two_ints (I.ok.hd hc) fun h' tk k => ⟨_, H, I.kept k, ?_, q⟩
  by_cases hj : j < i
  · rw [if_pos hj, if_pos hj]; exact ⟨_, rfl⟩
  · rw [if_neg hj, if_neg hj]; exact ⟨_, rfl⟩
end
structure ObjM (h : Heap) (x dx C : Addr) (mA : Str -> Option Value) : Prop where
  obj : h.get? x = some (PySem.W.instObj C dx)
  ns : h.Ns1 dx mA
  ne : dx ≠ x
theorem lookIn_ns {h : Heap} {dx : Addr} {mA : Str -> Option Value} (n : h.Ns1 dx mA) : ∃ od, h.get? dx = some od /\ ∀ name, PySem.W.lookIn name od = some (mA name) := by
  obtain ⟨o, es, ep, ho, hd, hk, _, hm⟩ := n
  refine ⟨o, ho, fun name => ?_⟩
  have e := hm name
  unfold nsFind findBy at e
  rw [<- Array.find?_toList] at e
  unfold PySem.W.lookIn
  rw [hd]
  dsimp only
  split
  · rename_i y q
    rw [q] at e
    exact congrArg some e
  · rename_i q
    rw [q] at e
    have a : es.toList.any (·.refKey) = false := by
      rw [List.any_eq_false]
      intro y hy
      obtain ⟨z, t, hkey⟩ := hk y (Array.mem_toList_iff.mp hy)
      simp [DictEntry.refKey, hkey]
    have a' : ¬ es.toList.any (·.refKey) = true := by rw [a]; exact Bool.false_ne_true
    rw [if_neg a']
    exact congrArg some e
theorem ObjM.look {h : Heap} {x dx C : Addr} {mA : Str -> Option Value} (I : ObjM h x dx C mA) : ∃ od, PySem.W.InstAt h x (PySem.W.instObj C dx) C (some od) /\ ∀ name, PySem.W.lookIn name od = some (mA name) :=
  let ⟨od, ho, hl⟩ := lookIn_ns I.ns
  ⟨od, ⟨I.obj, rfl, rfl, ho⟩, hl⟩
section
variable {prog : Program} {w : World} {A : Around} {E : Value -> Shared -> Prop} {s : Shared} {K : PySem.W.Frag} {x dx C f : Addr} {mA : Str -> Option Value} {name : Str} {v : Value}
end
theorem RelO.some_of {v : V} {o : Option Value} (r : RelO (some v) o) : ∃ u, o = some u /\ RelV v u := by
  cases o with
  | none => exact (show False from r).elim
  | some u => exact ⟨u, rfl, r⟩
section
variable {P : Program} {w : World} {H H' : Hp} {h h' : Heap} {a C dx : Addr} {fs fs' : List (Str × V)}
theorem ins_get (hok : HOk P w H h) (e : H a = some (.ins C dx fs)) : ∃ mA, ObjM h a dx C mA /\ (∀ f, RelO (fs.lookup f) (mA f)) /\ PySem.Within mA (fs.map (·.1)) /\ fs.length <= 1000 /\ H dx = some (.own a) := by
  obtain ⟨d, z, ne, ob, mA, n, r, q⟩ := (show ObjOk P w H h a (.ins C dx fs) from hok a _ e)
  exact ⟨mA, ⟨ob, n, ne⟩, r, q, z, d⟩
end
structure Cls (K : PySem.W.Frag) (C : Addr) : Prop where
  pg : PySem.W.plainGet K C Str.empty = true
  hd : PySem.W.hasDictIn K C = true
  po : PySem.W.plainOver K C = true
  sa : PySem.W.findIn K (.ref C) "__setattr__" = some (some (.builtin "object.__setattr__"))
theorem Cls.get {K : PySem.W.Frag} {C : Addr} (c : Cls K C) (f : Str) : PySem.W.plainGet K C f = true := c.pg
section
variable {X : Cx} {pins : List (Addr × Obj)} {σ : St} {H : Hp} {s : Shared} {a C dx : Addr} {fs : List (Str × V)} {f : Str} {v : V} {A : Around} {E : Value -> Shared -> Prop}
end
section
variable {X : Cx} {o e value : Expr} {f : Str} {pos pos' tpos : Pos} {ta tv : TE}
end
section
variable {X : Cx} {pins : List (Addr × Obj)} {σ : St} {H : Hp} {s : Shared} {A : Around} {E : Value -> Shared -> Prop} {Q : Value -> Shared -> Prop} {c : Value} {b : Bool}
inductive TyOf (K : PySem.W.Frag) (H : Hp) : V -> Value -> Prop where
  | non : TyOf K H .non (.type "NoneType")
  | bl (x : Bool) : TyOf K H (.bl x) (.type "bool")
  | int (i : Int) : TyOf K H (.int i) (.type "int")
  | str (x : Str) : TyOf K H (.str x) (.type "str")
  | flt (x : UInt64) : TyOf K H (.flt x) (.type "float")
  | lst {a : Addr} {xs : List V} (e : H a = some (.lst xs)) : TyOf K H (.ref a) (.type "list")
  | frz {a : Addr} {o : Obj} {xs : List V} (e : H a = some (.frz o (.lst xs))) : TyOf K H (.ref a) (.type "list")
  | tup {a : Addr} {xs : List V} (e : H a = some (.tup xs)) : TyOf K H (.ref a) (.type "tuple")
  | dK {a : Addr} {kvs : List (Key × V)} (e : H a = some (.dK kvs)) : TyOf K H (.ref a) (.type "dict")
  | dT {a : Addr} {kvs : List (List Key × V)} (e : H a = some (.dT kvs)) : TyOf K H (.ref a) (.type "dict")
  | ins {a C dx : Addr} {fs : List (Str × V)} (e : H a = some (.ins C dx fs)) (cl : Cls K C) (ha : PySem.W.findIn K (.ref C) "__class__" = some (some (.builtin "object.__class__")))
      (hn : PySem.W.specialIn K (.builtin "object.__class__") "__get__" = some (some (.builtin "getset_descriptor.__get__"))) (htk : PySem.W.takesIn K (.builtin "object.__class__") = some true)
      (hm : PySem.W.mroIn K C (.type "object") = some true) : TyOf K H (.ref a) (.ref C)
theorem isinst_ok {x : V} {u t : Value} (I : Inv X pins σ H s) (rx : RelV x u) (ty : TyOf X.K H x t) (e : PySem.W.kitOne X.K t c = some b) (h : ∀ tk, Q (.bool b) { s with toks := tk }) :
    wpAny (model X.prog X.w) A (call (.builtin "isinstance") [u, c]) Q E s := by
  cases ty with
  | non => cases (show u = Value.none from rx); exact PySem.W.kia_one PySem.W.kitx_none I.kIn True.intro e (fun z => nomatch z) h
  | bl y => cases (show u = Value.bool y from rx); exact PySem.W.kia_one PySem.W.kitx_bool I.kIn True.intro e (fun z => nomatch z) h
  | int i => obtain ⟨t, q⟩ := (show ∃ t, u = Value.int i t from rx); cases q; exact PySem.W.kia_one PySem.W.kitx_int I.kIn True.intro e (fun z => nomatch z) h
  | str y => obtain ⟨t, q⟩ := (show ∃ t, u = Value.str y t from rx); cases q; exact PySem.W.kia_one PySem.W.kitx_str I.kIn True.intro e (fun z => nomatch z) h
  | flt y => obtain ⟨t, q⟩ := (show ∃ t, u = Value.float y t from rx); cases q; exact PySem.W.kia_one PySem.W.kitx_float I.kIn True.intro e (fun z => nomatch z) h
  | @lst a xs ea =>
    cases (show u = Value.ref a from rx)
    obtain ⟨_, _, n, _, h1⟩ := (show ObjOk X.prog X.w H s.heap a (.lst xs) from I.hok a _ ea)
    exact PySem.W.kia_one PySem.W.kitx_list I.kIn ⟨_, h1, rfl⟩ e (fun z => nomatch z) h
  | @frz a ob xs ea =>
    cases (show u = Value.ref a from rx)
    obtain ⟨_, _, _, n, _, h1⟩ := (show ObjOk X.prog X.w H s.heap a (.frz ob (.lst xs)) from I.hok a _ ea)
    exact PySem.W.kia_one PySem.W.kitx_list I.kIn ⟨_, h1, rfl⟩ e (fun z => nomatch z) h
  | @tup a xs ea =>
    cases (show u = Value.ref a from rx)
    obtain ⟨_, _, _, p⟩ := (show ObjOk X.prog X.w H s.heap a (.tup xs) from I.hok a _ ea)
    obtain ⟨o, h1, h2, _⟩ := p
    exact PySem.W.kia_one PySem.W.kitx_tuple I.kIn ⟨o, h1, h2⟩ e (fun z => nomatch z) h
  | @dK a kvs ea =>
    cases (show u = Value.ref a from rx)
    obtain ⟨_, _, vs, _, p⟩ := (show ObjOk X.prog X.w H s.heap a (.dK kvs) from I.hok a _ ea)
    obtain ⟨o, es, ep, h1, h2, _⟩ := p
    exact PySem.W.kia_one PySem.W.kitx_dict I.kIn ⟨o, h1, h2.1⟩ e (fun z => nomatch z) h
  | @dT a kvs ea =>
    cases (show u = Value.ref a from rx)
    obtain ⟨_, _, xs, _, o, es, ep, h1, h2, _⟩ := (show ObjOk X.prog X.w H s.heap a (.dT kvs) from I.hok a _ ea)
    exact PySem.W.kia_one PySem.W.kitx_dict I.kIn ⟨o, h1, h2.1⟩ e (fun z => nomatch z) h
  | @ins a C dx fs ea cl ha hn htk hm =>
    cases (show u = Value.ref a from rx)
    obtain ⟨mA, O, _⟩ := ins_get I.hok ea
    obtain ⟨od, J, _⟩ := O.look
    exact PySem.W.kia_one (PySem.W.kitx_own (cl.get _) cl.hd ha hn htk hm) I.kIn J e (fun z => nomatch z) h
end
structure Room (k : Nat) (A : Around) : Prop where
  hd : A.handled = none
  dp : A.depth + 3 * k + 5 < recursionLimit
  un : A.units + 16 * k + 200 < cLine
theorem Room.mono {j k : Nat} {A : Around} (r : Room k A) (h : j <= k) : Room j A := ⟨r.hd, by have := r.dp; lia, by have := r.un; lia⟩
theorem Room.deeper {k : Nat} {A : Around} (r : Room (k + 1) A) (env : Env) : Room k (A.deeper env) :=
  ⟨r.hd, by have := r.dp; show A.depth + 1 + 3 * k + 5 < _; lia, by have := r.un; show A.units + 3 + 16 * k + 200 < _; lia⟩
theorem Room.depth {k : Nat} {A : Around} (r : Room k A) : A.depth < recursionLimit := by have := r.dp; lia
theorem Room.units {k : Nat} {A : Around} (r : Room k A) : A.units + 64 < cLine := by have := r.un; lia
def tNil : TA := fun _ H Q => Q [] H
def tCons (ta : TE) (tr : TA) : TA := fun σ H Q => ta σ H fun x H1 => tr σ H1 fun xs H2 => Q (x :: xs) H2
section
variable {X : Cx} {e : Expr} {es : List Expr} {te : TE} {t : TA} {pos : Pos}
theorem pa_nil : PA X [] tNil := fun _ _ _ _ H Q I h => Calls.spliced_nil ⟨[], H, I, .nil, h⟩
theorem pa_cons (ha : PE X e te) (hr : PA X es t) (hs : starEach (e :: es) X.env = (false, eval e X.env) :: starEach es X.env := by rfl) : PA X (e :: es) (tCons te t) := by
  intro pos pins s σ H Q I h
  rw [hs]
  show wpAny _ _ (spliced ((false, eval e X.env) :: backTo pos (starEach es X.env))) _ _ s
  refine Calls.spliced_cons (thn (ha pins s σ H _ I h) fun u s1 ⟨x, H1, I1, r1, q1⟩ => ?_)
  exact thn (hr pos pins s1 σ H1 _ I1 q1) fun us s2 ⟨xs, H2, I2, r2, q2⟩ => ⟨x :: xs, H2, I2, .cons r1 r2, q2⟩
def tTup (t : TA) : TE := fun σ H Q => t σ H fun xs H1 => xs.length <= sizeLine /\ ∀ p, H1 p = none -> Q (.ref p) (upd H1 p (.tup xs))
def tLst (t : TA) : TE := fun σ H Q => t σ H fun xs H1 => xs.length <= sizeLine /\ ∀ p, H1 p = none -> Q (.ref p) (upd H1 p (.lst xs))
theorem pe_tup {x1} (h : PA X es t) : PE X (.Tuple es x1 pos) (tTup t) := by
  intro pins s σ H Q I hq
  refine wpAny_Tuple_spliced (thn (h pos pins s σ H _ I hq) fun us s1 ⟨xs, H1, I1, r, z, q⟩ => ⟨by rw [<- r.length]; exact z, ?_⟩)
  have hf : H1 s1.heap.objs.size = none := I1.hok.fresh (Nat.le_refl _)
  refine ⟨.ref s1.heap.objs.size, upd H1 s1.heap.objs.size (.tup xs), I1.laid (t' := s1.toks) (fun b u e => Heap.get?_push_of_some _ e) (Nat.le_refl _) ?_, rfl, q _ hf⟩
  exact ⟨z, us, r, ⟨_, Heap.get?_push_size _ rfl, rfl, _, rfl⟩⟩
theorem pe_lst (h : PA X es t) : PE X (.List es pos) (tLst t) := by
  intro pins s σ H Q I hq
  refine wpAny_List_spliced (thn (h pos pins s σ H _ I hq) fun us s1 ⟨xs, H1, I1, r, z, q⟩ => ⟨by rw [<- r.length]; exact z, ?_⟩)
  have hf : H1 s1.heap.objs.size = none := I1.hok.fresh (Nat.le_refl _)
  refine ⟨.ref s1.heap.objs.size, upd H1 s1.heap.objs.size (.lst xs), I1.laid (t' := s1.toks) (fun b u e => Heap.get?_push_of_some _ e) (Nat.le_refl _) ?_, rfl, q _ hf⟩
  exact ⟨z, us, 0, r, Heap.get?_push_size _ rfl⟩
end
abbrev Sp := List V -> Hp -> VK -> XK -> Prop
abbrev CXT := List Env -> Hp -> Shared -> XK -> Value -> Shared -> Prop
structure Env0 (P : Program) (w : World) (K : PySem.W.Frag) (mg : Str -> Option Value) (base : Heap) (A : Around) (outer : List Env) (s : Shared) (H : Hp) : Prop where
  frames : A.frames = some outer
  mod : Mod K mg base
  bs : ∀ b o, base.get? b = some o -> s.heap.get? b = some o /\ H b = none
  bsz : base.objs.size <= s.heap.objs.size
  funs : s.heap.FunFrames base outer
  frf : ∀ b ∈ frs outer, H b = none
  hok : HOk P w H s.heap
  bare : AllBare s.gens
def CE (outer : List Env) (P : Program) (w : World) (H : Hp) (s : Shared) (Q : VK) (u : Value) (s' : Shared) : Prop :=
  ∃ v H', s'.os = s.os /\ AllBare s'.gens /\ Un (frs outer) [] H H' s.heap s'.heap /\ HOk P w H' s'.heap /\ RelV v u /\ Q v H'
def CR (CX : CXT) (outer : List Env) (P : Program) (w : World) (H : Hp) (s : Shared) (Q : VK) (E : XK) (r : Result) (s' : Shared) : Prop :=
  match r with
  | .ok (.ret u) => CE outer P w H s Q u s'
  | .ok _ => False
  | .error e => CX outer H s E e s'
structure FnOk (P : Program) (w : World) (K : PySem.W.Frag) (mg : Str -> Option Value) (base : Heap) (CX : CXT) (k : Nat) (f : Addr) (fd : FuncData) (ps : List Str) (sp : Sp) : Prop where
  len : ∀ vs H Q E, sp vs H Q E -> vs.length = ps.length
  run : ∀ (A : Around) (outer : List Env) (s : Shared) (H : Hp) (args : Args) (us : List Value) (vs : List V) (Q : VK) (E : XK), Room k A -> Env0 P w K mg base A outer s H -> BindsTo s fd args (ps.zip us) -> Vals vs us -> sp vs H Q E ->
    codeAny (model P w) A (.call (.ref f) args) (CR CX outer P w H s Q E) s
section
variable {X : Cx} {pins : List (Addr × Obj)} {σ : St} {H : Hp} {s s' : Shared}
theorem Inv.env0 (I : Inv X pins σ H s) : Env0 X.prog X.w X.K X.mg X.base X.A X.stack s H :=
  ⟨I.ok.frames, I.ok.mod, I.bs, Nat.le_trans I.ok.bsz I.sz, I.stack, I.stkFree, I.hok, I.bare⟩
theorem Inv.after {Q : VK} {u : Value} (I : Inv X pins σ H s) (h : CE X.stack X.prog X.w H s Q u s') : EP X pins σ Q u s' := by
  obtain ⟨v, H', os, bare, un, hok, r, q⟩ := h
  obtain ⟨hh, g, d, t, os'⟩ := s'
  obtain rfl : os' = s.os := os
  exact ⟨v, H', I.call (h' := hh) (g' := g) (d' := d) (t' := t) (ch := []) un hok bare (fun b z => absurd z (by simp)), r, q⟩
end
def tCall (sp : Sp) (dvs : List V) (E : XK) (t : TA) : TE := fun σ H Q => t σ H fun vs H1 => sp (vs ++ dvs) H1 Q E
def Binds (K : PySem.W.Frag) (fd : FuncData) (ps : List Str) (ds : List Value) : Prop :=
  ∀ (s : Shared) (us : List Value), K.In s.heap -> (us ++ ds).length = ps.length -> BindsTo s fd ⟨us, []⟩ (ps.zip (us ++ ds))
theorem Binds.all {K : PySem.W.Frag} {fd : FuncData} {ps : List Str} (h : ∀ us : List Value, us.length = ps.length -> bindArgs fd ⟨us, []⟩ = pure (ps.zip us)) : Binds K fd ps [] := fun s us _ hl => by
  rw [List.append_nil] at hl ⊢
  exact .of_eq (h us hl)
def Passes (CX : CXT) (X : Cx) (E : XK) : Prop := ∀ (pins : List (Addr × Obj)) (σ : St) (H : Hp) (s : Shared) (e : Value) (s' : Shared), Inv X pins σ H s -> CX X.stack H s E e s' -> X.xe e s'
section
variable {X : Cx} {CX : CXT} {k : Nat} {f C : Addr} {fd : FuncData} {ps : List Str} {sp : Sp} {dvs : List V} {ds : List Value} {E : XK} {x m : Str} {p pos apos : Pos} {e o : Expr} {es : List Expr} {ta : TE} {t : TA}
theorem run_fn {pins : List (Addr × Obj)} {σ : St} {H : Hp} {s : Shared} {Q : VK} {us : List Value} {vs : List V} (F : FnOk X.prog X.w X.K X.mg X.base CX k f fd ps sp) (hr : Room k X.A) (hb : Binds X.K fd ps ds) (hd : Vals dvs ds) (hx : Passes CX X E)
    (I : Inv X pins σ H s) (r : Vals vs us) (h : sp (vs ++ dvs) H Q E) : wpAny (model X.prog X.w) X.A (call (.ref f) us) (EP X pins σ Q) X.xe s := by
  have r2 : Vals (vs ++ dvs) (us ++ ds) := r.append hd
  have hl : (us ++ ds).length = ps.length := by rw [<- r2.length]; exact F.len _ _ _ _ h
  refine wpAny_call (codeAny_mono (F.run X.A X.stack s H ⟨us, []⟩ (us ++ ds) (vs ++ dvs) Q E hr I.env0 (hb s us I.kIn hl) r2 h) fun r s' hq => ?_)
  cases r with
  | error e => exact hx pins σ H s e s' I hq
  | ok fl =>
    cases fl with
    | ret u => exact I.after hq
    | next => exact False.elim hq
    | brk => exact False.elim hq
    | cont => exact False.elim hq
theorem pe_call (F : FnOk X.prog X.w X.K X.mg X.base CX k f fd ps sp) (hr : Room k X.A) (hg : Gl X x) (hm : X.mg x = some (.ref f)) (hk : PySem.W.keepIn X.K (.ref f) = true) (hb : Binds X.K fd ps ds) (hd : Vals dvs ds) (hx : Passes CX X E)
    (ha : PA X (e :: es) t) (hdb : (x == ("__debug__" : Str)) = false := by decide) (he : starEach (e :: es) X.env = (false, eval e X.env) :: starEach es X.env := by rfl) (hpl : (backTo pos (starEach es X.env)).any (·.1) = false := by rfl) :
    PE X (.Call (.Name x p) (e :: es) [] pos) (tCall sp dvs E t) := by
  intro pins s σ H Q I h
  refine wpAny_Call_Name_kw (ld_glob I hg hm ?_ hdb)
  refine PySem.W.callWith_K (h₀ := X.base) I.ok.mod.kin hk (thn (ha pos pins s σ H _ I h) fun us s1 ⟨vs, H1, I1, r, q⟩ => ⟨I1.kIn, ?_⟩) he hpl
  exact run_fn F hr hb hd hx I1 r q
end
section
variable {X : Cx} {CX : CXT} {k : Nat} {f C : Addr} {fd : FuncData} {ps ks : List Str} {sp : Sp} {E : XK} {x m : Str} {p pos apos kpos : Pos} {e o : Expr} {es : List Expr} {kws : List Keyword} {te ta : TE} {t tk : TA} {nm : Option Str}
variable {g : List Value -> List Value -> List Value} {gV : List V -> List V -> List V}
end
structure FnScope (N P : List Str) (sc : Scope) : Prop where
  kind : sc.kind = .function
  co : sc.isCoroutine = false
  gen : sc.isGenerator = false
  nd : N.Nodup
  pre : N.take P.length = P
  par : ∀ x ∈ P, sc.names.lookup x = some .local \/ sc.names.lookup x = some .cell
  nofree : ∀ y ∈ sc.names, y.2 ≠ .free
theorem bindL_out {kindOf : Str -> Option NameKind} {x : Str} : ∀ {binds : List (Str × Value)} {m : Str -> Option Value}, (∀ v, (x, v) ∉ binds) -> bindL kindOf binds m x = m x
  | [], _, _ => rfl
  | (n, v) :: r, m, h => by
    unfold bindL
    rw [bindL_out fun w hw => h w (List.mem_cons_of_mem _ hw)]
    split
    · have : x ≠ n := by rintro rfl; exact h v List.mem_cons_self
      simp [this]
    · rfl
theorem bindC_out {kindOf : Str -> Option NameKind} {x : Str} : ∀ {binds : List (Str × Value)} {m : Str -> Option Value}, (∀ v, (x, v) ∉ binds) -> bindC kindOf binds m x = m x
  | [], _, _ => rfl
  | (n, v) :: r, m, h => by
    unfold bindC
    rw [bindC_out fun w hw => h w (List.mem_cons_of_mem _ hw)]
    split
    · rfl
    · have : x ≠ n := by rintro rfl; exact h v List.mem_cons_self
      simp [this]
theorem bindL_get {kindOf : Str -> Option NameKind} {x : Str} {v : Value} : ∀ {P : List Str} {vs : List Value} {i : Nat} {m : Str -> Option Value}, P.Nodup -> P[i]? = some x -> vs[i]? = some v -> kindOf x = some .local ->
    bindL kindOf (P.zip vs) m x = some v
  | [], _, _, _, _, h, _, _ => by simp at h
  | _ :: _, [], _, _, _, _, h, _ => by simp at h
  | p :: P, w :: vs, 0, m, nd, h1, h2, hk => by
    simp at h1 h2; subst h1; subst h2
    show bindL kindOf ((p, w) :: P.zip vs) m p = _
    unfold bindL
    rw [bindL_out fun v hv => (List.nodup_cons.mp nd).1 (List.of_mem_zip hv).1, if_pos hk]
    simp
  | p :: P, w :: vs, i + 1, m, nd, h1, h2, hk => by
    show bindL kindOf ((p, w) :: P.zip vs) m x = _
    unfold bindL
    exact bindL_get (i := i) (List.nodup_cons.mp nd).2 (by simpa using h1) (by simpa using h2) hk
theorem bindC_get {kindOf : Str -> Option NameKind} {x : Str} {v : Value} : ∀ {P : List Str} {vs : List Value} {i : Nat} {m : Str -> Option Value}, P.Nodup -> P[i]? = some x -> vs[i]? = some v -> kindOf x ≠ some .local ->
    bindC kindOf (P.zip vs) m x = some v
  | [], _, _, _, _, h, _, _ => by simp at h
  | _ :: _, [], _, _, _, _, h, _ => by simp at h
  | p :: P, w :: vs, 0, m, nd, h1, h2, hk => by
    simp at h1 h2; subst h1; subst h2
    show bindC kindOf ((p, w) :: P.zip vs) m p = _
    unfold bindC
    rw [bindC_out fun v hv => (List.nodup_cons.mp nd).1 (List.of_mem_zip hv).1, if_neg hk]
    simp
  | p :: P, w :: vs, i + 1, m, nd, h1, h2, hk => by
    show bindC kindOf ((p, w) :: P.zip vs) m x = _
    unfold bindC
    exact bindC_get (i := i) (List.nodup_cons.mp nd).2 (by simpa using h1) (by simpa using h2) hk
def start (N : List Str) (vs : List V) : St := vs.map some ++ List.replicate (N.length - vs.length) none
def cxOf (CX : CXT) (P : Program) (w : World) (K : PySem.W.Frag) (mg : Str -> Option Value) (base : Heap) (N : List Str) (qual : Str) (scope : Scope) (f : Addr) (cd : Value) (A : Around) (outer : List Env) (s : Shared) (H : Hp) (E : XK) : Cx where
  prog := P
  w := w
  K := K
  mg := mg
  base := base
  A := A.deeper (envOfC qual scope s.heap.objs.size f cd)
  N := N
  s₀ := s
  H₀ := H
  env := envOfC qual scope s.heap.objs.size f cd
  outer := outer
  stack := envOfC qual scope s.heap.objs.size f cd :: outer
  ex := []
  calm := true
  fn := fun _ => true
  pn := []
  xe := fun e s' => wpAny (model P w) (A.deeper (envOfC qual scope s.heap.objs.size f cd)) (leaving (envOfC qual scope s.heap.objs.size f cd) e) (fun _ s'' => CX outer H s E e s'') (fun e' s'' => CX outer H s E e' s'') s'
theorem cell_has {sc : Scope} {n : Nat} {x : Str} (h : sc.names.lookup x = some .cell) : ∃ c, (cellsFrom n sc.names []).lookup x = some c := by
  have q := PySem.W.cellsFrom_some sc.names n [] (.inl h)
  exact Option.isSome_iff_exists.mp q
theorem inv_start {CX : CXT} {P : Program} {w : World} {K : PySem.W.Frag} {mg : Str -> Option Value} {base : Heap} {N ps : List Str} {qual : Str} {scope : Scope} {f : Addr} {cd : Value} {A : Around} {outer : List Env} {s s1 : Shared} {H : Hp} {E : XK} {us : List Value} {vs : List V}
    (S : FnScope N ps scope) (hd : A.handled = none) (e0 : Env0 P w K mg base A outer s H) (hl : vs.length = ps.length) (r : Vals vs us)
    (x : InCallC s s.heap.objs.size (bindL (envOfC qual scope s.heap.objs.size f cd).kindOf (ps.zip us) fun _ => none) (cellsFrom (s.heap.objs.size + 1) scope.names []) (bindC (envOfC qual scope s.heap.objs.size f cd).kindOf (ps.zip us) fun _ => none) s1) :
    Inv (cxOf CX P w K mg base N qual scope f cd A outer s H E) [] (start N vs) H s1 := by
  have hpl : ps.length <= N.length := by have := congrArg List.length S.pre; rw [List.length_take] at this; lia
  obtain ⟨h1, tk, rfl, hk⟩ := x.done
  have noA : ∀ b : Addr, b ∉ (cxOf CX P w K mg base N qual scope f cd A outer s H E).ex := fun b z => absurd (show b ∈ ([] : List Addr) from z) (by simp)
  refine ⟨⟨e0.mod, S.kind, rfl, rfl, Nat.le_refl _, fun y z c h1 h2 => ?_, fun y hy => ?_, fun y c _ h => ?_, fun _ => hd, Around.frames_deeper e0.frames, .inr ⟨rfl, rfl⟩, fun b z => absurd z (noA b), e0.bs, e0.bsz, fun b _ _ => noA b, fun b z => absurd z (noA b), e0.funs, e0.frf⟩,
    rfl, e0.bare, Un.kept hk, ⟨_, x.toInCall.ns, fun i y v h1 h2 h3 => ?_⟩, fun y c h => ⟨_, x.cell y c h⟩, e0.hok.fresh (Nat.le_refl _), fun y c h => ?_, fun p hp => absurd (show p ∈ ([] : List (Addr × Obj)) from hp) (by simp), e0.hok.kept hk, ?_⟩
  · exact name_of_addr x.apart (PySem.mem_of_lookup h1) (PySem.mem_of_lookup h2)
  · have hy : scope.names.lookup y = some .cell \/ scope.names.lookup y = some .free := hy
    rcases hy with hy | hy
    · exact cell_has hy
    · exact absurd rfl (S.nofree _ (PySem.mem_of_lookup hy))
  · exact Nat.le_of_lt (x.above y c (PySem.mem_of_lookup h))
  · have hi : i < vs.length := by
      unfold start at h2
      by_cases hi : i < vs.length
      · exact hi
      · rw [List.getElem?_append_right (by simpa using hi)] at h2
        rw [List.getElem?_replicate] at h2
        split at h2 <;> cases h2
    have ha : vs[i]? = some v := by
      unfold start at h2
      rw [List.getElem?_append_left (by simpa using hi), List.getElem?_map] at h2
      cases e : vs[i]? with
      | none => rw [e] at h2; cases h2
      | some a => rw [e] at h2; cases h2; rfl
    obtain ⟨u, hu, rv⟩ := r.get ha
    have hp : ps[i]? = some y := by
      rw [<- S.pre, List.getElem?_take_of_lt (by lia)]; exact h1
    have ndP : ps.Nodup := by rw [<- S.pre]; exact S.nd.sublist (List.take_sublist _ _)
    refine ⟨u, rv, ?_⟩
    rcases S.par y (List.mem_of_getElem? hp) with k | k
    · exact .inl ⟨k, bindL_get ndP hp hu k⟩
    · obtain ⟨c, e⟩ := cell_has (n := s.heap.objs.size + 1) k
      refine .inr ⟨.inl k, c, e, ?_⟩
      have q := x.cell y c e
      rw [bindC_get ndP hp hu (by show scope.names.lookup y ≠ _; rw [k]; decide)] at q
      exact q
  · exact e0.hok.fresh (Nat.le_of_lt (x.above y c (PySem.mem_of_lookup h)))
  · unfold start
    show _ = N.length
    rw [List.length_append, List.length_map, List.length_replicate]
    lia
theorem fn_of {CX : CXT} {P : Program} {w : World} {K : PySem.W.Frag} {mg : Str -> Option Value} {base : Heap} {k : Nat} {f : Addr} {name qual : Str} {params : Arguments} {body : List Stmt} {scope : Scope} {dV kV doc pm cdv ct oc : Value} {an od : Option Addr}
    {osl : Array (Option Value)} {N ps : List Str} {sp : Sp} (lk : K.lookup f = some ⟨oc, od, .func (PySem.W.fnOf name qual params body scope dV kV doc pm an cdv ct), osl⟩) (hcd : PySem.W.codeIn K cdv qual = true) (S : FnScope N ps scope)
    (len : ∀ vs H Q E, sp vs H Q E -> vs.length = ps.length)
    (hbody : ∀ (A : Around) (outer : List Env) (s : Shared) (H : Hp) (vs : List V) (Q : VK) (E : XK), Room k (A.deeper (envOfC qual scope s.heap.objs.size f cdv)) -> sp vs H Q E ->
      ∃ t, PSs (cxOf CX P w K mg base N qual scope f cdv A outer s H E) body t /\ t { nx := fun _ H' => Q .non H', rt := Q } (start N vs) H) :
    FnOk P w K mg base CX (k + 1) f (PySem.W.fnOf name qual params body scope dV kV doc pm an cdv ct) ps sp := by
  refine ⟨len, fun A outer s H args us vs Q E hr e0 hb r hsp => ?_⟩
  have hl := len _ _ _ _ hsp
  have KX : K.In s.heap := e0.mod.kin.keeps fun b o e => (e0.bs b o e).1
  have lim : s.heap.NoLimit := e0.mod.nolimit.keeps fun b o e => (e0.bs b o e).1
  have hkind : ∀ y ∈ ps.zip us, scope.names.lookup y.1 = some .local \/ (scope.names.lookup y.1 = some .cell /\ ((cellsFrom (s.heap.objs.size + 1) scope.names []).lookup y.1).isSome = true) := fun ⟨n, v⟩ hy => by
    rcases S.par n (List.of_mem_zip hy).1 with q | q
    · exact .inl q
    · exact .inr ⟨q, PySem.W.cellsFrom_some _ _ _ (.inl q)⟩
  refine codeAny_call_function hr.depth (KX _ _ lk) rfl S.co S.gen rfl (PySem.W.codeRec_of KX hcd) (hb _ _ _ _ ?_)
  refine wpAny_newFunctionEnv_cells S.kind hkind fun env he s1 x => ?_
  subst he
  refine ⟨lim.keeps x.toInCall.keep, codeAny_func ?_⟩
  obtain ⟨t, ht, hq⟩ := hbody A outer s H vs Q E (hr.deeper _) hsp
  have I : Inv (cxOf CX P w K mg base N qual scope f cdv A outer s H E) [] (start N vs) H s1 := inv_start S hr.hd e0 hl r x
  refine wpAny_mono (ht [] s1 (start N vs) H _ I hq) (fun fl s' hs => ?_) fun e s' hs => hs
  have fin : ∀ {σ' : St} {H' : Hp} {v : V} {u : Value}, Inv (cxOf CX P w K mg base N qual scope f cdv A outer s H E) [] σ' H' s' -> RelV v u -> Q v H' -> CE outer P w H s Q u s' :=
    fun {σ' H' v u} J rv q => ⟨v, H', J.os, J.bare, J.base, J.hok, rv, q⟩
  cases fl with
  | ret u =>
    obtain ⟨v, σ', H', J, rv, q⟩ := hs
    exact fin J rv q
  | next =>
    obtain ⟨σ', H', J, q⟩ := hs
    exact fin (v := V.non) (u := Value.none) J rfl q
  | brk =>
    obtain ⟨_, _, _, q⟩ := hs
    exact False.elim q
  | cont =>
    obtain ⟨_, _, _, q⟩ := hs
    exact False.elim q
section
variable {X : Cx} {x : Str} {p pos : Pos} {e : Expr} {es : List Expr} {t : TA} {id T : String} {r : List V -> Hp -> VK -> Prop}
def tCB (r : List V -> Hp -> VK -> Prop) (t : TA) : TE := fun σ H Q => t σ H fun vs H1 => r vs H1 Q
theorem pe_callB (hc : CallR X (.builtin id) r) (hg : Gl X x) (hm : X.mg x = none) (hv : bootBuiltins x = some (.builtin id)) (ha : PA X (e :: es) t) (hn : x ≠ "__name__" := by decide) (hdb : (x == ("__debug__" : Str)) = false := by decide)
    (he : starEach (e :: es) X.env = (false, eval e X.env) :: starEach es X.env := by rfl) (hpl : (backTo pos (starEach es X.env)).any (·.1) = false := by rfl) : PE X (.Call (.Name x p) (e :: es) [] pos) (tCB r t) := by
  intro pins s σ H Q I h
  refine wpAny_Call_Name_kw (ld_blt I hg hm hv ?_ hn hdb)
  exact PyProof.Rows.callWith_builtin1 (thn (ha pos pins s σ H _ I h) fun us s1 ⟨vs, H1, I1, r1, q1⟩ => hc pins s1 σ H1 vs us Q I1 r1 q1) he hpl
theorem pe_callTy (hc : CallR X (.type T) r) (hg : Gl X x) (hm : X.mg x = none) (hv : bootBuiltins x = some (.type T)) (ha : PA X (e :: es) t) (hn : x ≠ "__name__" := by decide) (hdb : (x == ("__debug__" : Str)) = false := by decide)
    (he : starEach (e :: es) X.env = (false, eval e X.env) :: starEach es X.env := by rfl) (hpl : (backTo pos (starEach es X.env)).any (·.1) = false := by rfl) : PE X (.Call (.Name x p) (e :: es) [] pos) (tCB r t) := by
  intro pins s σ H Q I h
  refine wpAny_Call_Name_kw (ld_blt I hg hm hv ?_ hn hdb)
  exact PyProof.Rows.callWith_type1 (thn (ha pos pins s σ H _ I h) fun us s1 ⟨vs, H1, I1, r1, q1⟩ => hc pins s1 σ H1 vs us Q I1 r1 q1) he hpl
end
end L2
namespace HT
open PySem PyProof.Rows
section
open PySem.SeqAt
open PySem.AutoSeq1 (wpAny_loadPart')
open PySem.MeetsSeq PySem.MeetsSeq2 PySem.MeetsSeq3
end
section
variable {prog : Program} {w : World} {A : Around} {E : Value -> Shared -> Prop} {s : Shared}
def sIx (n d : Nat) : Option Int -> Nat
  | none => d
  | some v => if v < 0 then (v + (n : Int)).toNat else min v.toNat n
theorem sIx_nat (n d k : Nat) : sIx n d (some (k : Int)) = min k n := by
  show (if (k : Int) < 0 then ((k : Int) + (n : Int)).toNat else min (k : Int).toNat n) = min k n
  rw [if_neg (by lia), Int.toNat_natCast]
end
end HT
namespace L2
open PySem PySem.Spec PyProof.Rows
abbrev TO := St -> Hp -> (Option Int -> Hp -> Prop) -> Prop
def PO (X : Cx) (e : Option Expr) (t : TO) : Prop :=
  ∀ (pins : List (Addr × Obj)) (s : Shared) (σ : St) (H : Hp) (Q : Option Int -> Hp -> Prop), Inv X pins σ H s -> t σ H Q ->
    wpAny (model X.prog X.w) X.A (evalPart e X.env) (fun u s' => ∃ o H', Inv X pins σ H' s' /\ IsPart u o /\ Q o H') X.xe s
def tPart (t : TE) : TO := fun σ H Q => t σ H fun x H1 => ∃ i, x = .int i /\ Q (some i) H1
theorem intsAre_of {ns : List Int} : ∀ {us : List Value}, Vals (ns.map V.int) us -> IntsAre us ns := by
  induction ns with
  | nil => intro us r; rw [List.map_nil] at r; cases r; exact .nil
  | cons n ns ih =>
    intro us r
    rw [List.map_cons] at r
    cases r with
    | cons r1 r2 =>
      obtain ⟨t, e⟩ := r1
      subst e
      exact .cons n t (ih r2)
section
variable {X : Cx} {e : Expr} {te : TE} {lo hi : Option Expr} {tl th : TO} {pos p2 : Pos}
theorem po_some (h : PE X e te) : PO X (some e) (tPart te) := by
  intro pins s σ H Q I hw
  rw [evalPart_some]
  refine thn (h pins s σ H _ I hw) fun u s1 ⟨x, H1, I1, r1, q1⟩ => ?_
  obtain ⟨i, rfl, q⟩ := q1
  obtain ⟨t, rfl⟩ := r1
  exact ⟨some i, H1, I1, .int i t, q⟩
def SlR (X : Cx) (r : V -> Option Int -> Option Int -> Hp -> VK -> Prop) : Prop :=
  ∀ (pins : List (Addr × Obj)) (s : Shared) (σ : St) (H : Hp) (x : V) (v vl vu : Value) (lo hi : Option Int) (sl : Addr) (Q : VK), Inv X pins σ H s -> RelV x v -> s.heap.IsSliceOf sl vl vu .none -> IsPart vl lo -> IsPart vu hi -> r x lo hi H Q ->
    ∃ T id, typeLookup (.type T) "__getitem__" = pure (some (.builtin id)) /\ s.TypeIs v T /\ wpAny (model X.prog X.w) X.A (getItem v (.ref sl)) (EP X pins σ Q) X.xe s
def tSl (r : V -> Option Int -> Option Int -> Hp -> VK -> Prop) (te : TE) (tl th : TO) : TE := fun σ H Q => te σ H fun x H1 => tl σ H1 fun l H2 => th σ H2 fun u H3 => r x l u H3 Q
theorem pe_slice {r : V -> Option Int -> Option Int -> Hp -> VK -> Prop} (hr : SlR X r) (he : PE X e te) (hl : PO X lo tl) (hu : PO X hi th) : PE X (.Subscript e (.Slice lo hi none p2) pos) (tSl r te tl th) := by
  intro pins s σ H Q I h
  refine Subscript_ (thn (he pins s σ H _ I h) fun v s1 ⟨x, H1, I1, r1, q1⟩ => ?_)
  refine wpAny_Slice (thn (hl pins s1 σ H1 _ I1 q1) fun vl s2 ⟨l, H2, I2, pl, q2⟩ => thn (hu pins s2 σ H2 _ I2 q2) fun vu s3 ⟨u, H3, I3, pu, q3⟩ => ?_)
  rw [evalPart_none]
  refine wpAny_pure ?_
  have I4 : Inv X pins σ H3 { s3 with heap := s3.heap.push { cls := .type "slice", data := .fields #[vl, vu, .none] } } := I3.kept (t' := s3.toks) fun b ob q => Heap.get?_push_of_some _ q
  obtain ⟨T, id, hT, ht, hg⟩ := hr pins { s3 with heap := s3.heap.push { cls := .type "slice", data := .fields #[vl, vu, .none] } } σ H3 x v vl vu l u s3.heap.objs.size Q I4 r1 (Heap.IsSliceOf.new ..) pl pu q3
  show wpAny (model X.prog X.w) X.A (subscriptTail e (.Slice lo hi none p2) v (.ref s3.heap.objs.size)) (EP X pins σ Q) X.xe { s3 with heap := s3.heap.push { cls := .type "slice", data := .fields #[vl, vu, .none] } }
  exact tail_any (ops := [.ref s3.heap.objs.size, v]) ht hT hg (by with_unfolding_all rfl)
def cutV (xs : List V) (lo hi : Option Int) : List V := (xs.drop (HT.sIx xs.length 0 lo)).take (HT.sIx xs.length xs.length hi - HT.sIx xs.length 0 lo)
theorem cutV_length (xs : List V) (lo hi : Option Int) : (cutV xs lo hi).length <= xs.length := by
  unfold cutV
  rw [List.length_take, List.length_drop]
  lia
end
def ixN (n : Nat) (i : Int) : Option Nat := if 0 <= i then (if i < n then some i.toNat else none) else if -(n : Int) <= i then some (i + n).toNat else none
def atI {α : Type} (xs : List α) (i : Int) : Option α := (ixN xs.length i).bind fun j => xs[j]?
theorem ixN_seq {n : Nat} {i : Int} {j : Nat} (h : ixN n i = some j) : seqIndex? i n = some j /\ j < n /\ -(n : Int) <= i /\ i < n := by
  unfold ixN at h
  by_cases h0 : 0 <= i
  · rw [if_pos h0] at h
    by_cases h1 : i < n
    · rw [if_pos h1] at h
      have e : i.toNat = j := Option.some.inj h
      exact ⟨by rw [seqIndex_of h0 h1, e], by lia, by lia, h1⟩
    · rw [if_neg h1] at h; cases h
  · rw [if_neg h0] at h
    by_cases h1 : -(n : Int) <= i
    · rw [if_pos h1] at h
      have e : (i + n).toNat = j := Option.some.inj h
      exact ⟨by rw [seqIndex_neg (by lia) h1, e], by lia, h1, by lia⟩
    · rw [if_neg h1] at h; cases h
theorem atI_get {α : Type} {xs : List α} {i : Int} {v : α} (h : atI xs i = some v) : ∃ j, seqIndex? i xs.length = some j /\ xs[j]? = some v /\ j < xs.length /\ -(xs.length : Int) <= i /\ i < xs.length := by
  unfold atI at h
  cases e : ixN xs.length i with
  | none => rw [e] at h; cases h
  | some j =>
    rw [e] at h
    obtain ⟨h1, h2, h3, h4⟩ := ixN_seq e
    exact ⟨j, h1, h, h2, h3, h4⟩
theorem atI_nat {α : Type} {xs : List α} {j : Nat} {v : α} (h : xs[j]? = some v) : atI xs (j : Int) = some v := by
  have hj : j < xs.length := (List.getElem?_eq_some_iff.mp h).1
  have e : ixN xs.length (j : Int) = some j := by
    unfold ixN
    rw [if_pos (by lia), if_pos (by lia)]; simp
  unfold atI; rw [e]; exact h
def PlainIx (b : Expr) : Prop := ∀ o i, subscripted b false o i = operate [o, i] (getItem o i)
def IxR (X : Cx) (r : R2) : Prop :=
  ∀ (value slice : Expr) (pins : List (Addr × Obj)) (s : Shared) (σ : St) (H : Hp) (x y : V) (v u : Value) (Q : VK), Inv X pins σ H s -> RelV x v -> RelV y u -> r x y H Q ->
    subscripted slice false v u = operate [v, u] (getItem v u) -> wpAny (model X.prog X.w) X.A (subscriptTail value slice v u) (EP X pins σ Q) X.xe s
def MtR (X : Cx) (id : String) (r : V -> List V -> Hp -> VK -> Prop) : Prop :=
  ∀ (pins : List (Addr × Obj)) (s : Shared) (σ : St) (H : Hp) (x : V) (xs : List V) (v : Value) (us : List Value) (Q : VK), Inv X pins σ H s -> RelV x v -> Vals xs us -> r x xs H Q ->
    wpAny (model X.prog X.w) X.A (call (.builtin id) (v :: us)) (EP X pins σ Q) X.xe s
section
variable {X : Cx} {a b : Expr} {ta tb : TE} {pos : Pos}
theorem pe_ix {r : R2} (hr : IxR X r) (ha : PE X a ta) (hb : PE X b tb) (hs : PlainIx b) : PE X (.Subscript a b pos) (tOp r ta tb) := by
  intro pins s σ H Q I h
  exact Subscript_ (binT ha hb I h fun v u s2 x y H2 I2 rx ry q => hr a b pins s2 σ H2 x y v u Q I2 rx ry q (hs _ _))
def rIxL (K : PySem.W.Frag) : R2 := fun x y H Q => ∃ p xs i v, x = .ref p /\ y = .int i /\ SqL K H p xs /\ atI xs i = some v /\ Q v H
def rIxT (K : PySem.W.Frag) : R2 := fun x y H Q => ∃ p xs i v, x = .ref p /\ y = .int i /\ SqT K H p xs /\ atI xs i = some v /\ Q v H
theorem ix_list : IxR X (rIxL X.K) := by
  intro value slice pins s σ H x y v u Q I rx ry h hs
  obtain ⟨p, xs, i, z, rfl, rfl, hq, he, q⟩ := h
  cases rx
  obtain ⟨t, rfl⟩ := ry
  obtain ⟨its, r, pl, hz⟩ := I.list hq
  obtain ⟨j, h1, h2, h3, h4, h5⟩ := atI_get he
  obtain ⟨w, ew, rw'⟩ := r.get h2
  have hl := r.length
  have hn := line63
  have fin : EP X pins σ Q w s := ⟨z, H, I, rw', q⟩
  by_cases h0 : 0 <= i
  · have hj : i.toNat = j := by
      rw [seqIndex_of h0 h5] at h1
      exact Option.some.inj h1
    exact item_listR pl.isList h0 (by lia) (by rw [hj]; simpa using ew) fin hs
  · have hj : (i + (its.toArray.size : Int)).toNat = j := by
      rw [seqIndex_neg (by lia) h4] at h1
      rw [List.size_toArray, <- hl]
      exact Option.some.inj h1
    exact subscriptTail_builtinR (x := w) pl.isList.typeIs slot_list_getitem.lookup
      (wpAny_getItem_list_neg (Q := fun r s' => r = w /\ EP X pins σ Q r s') pl.isList (by lia) (by rw [List.size_toArray] <;> lia) (by lia) (by rw [hj]; simpa using ew) ⟨rfl, fin⟩) hs
theorem ix_tup : IxR X (rIxT X.K) := by
  intro value slice pins s σ H x y v u Q I rx ry h hs
  obtain ⟨p, xs, i, z, rfl, rfl, hq, he, q⟩ := h
  cases rx
  obtain ⟨t, rfl⟩ := ry
  obtain ⟨its, r, pl, hz⟩ := I.tuple hq
  obtain ⟨j, h1, h2, h3, h4, h5⟩ := atI_get he
  obtain ⟨w, ew, rw'⟩ := r.get h2
  have hl := r.length
  have hn := line63
  have fin : EP X pins σ Q w s := ⟨z, H, I, rw', q⟩
  exact subscriptTail_builtinR (x := w) pl.typeIs slot_tuple_getitem.lookup
    (getItem_tuple (j := j) (Q := fun r s' => r = w /\ EP X pins σ Q r s') pl (by lia) (by lia) (by rw [List.size_toArray, <- hl]; exact h1) (by simpa using ew) ⟨rfl, fin⟩) hs
theorem mapSeq_set (its : List Value) (n j : Nat) (u : Value) : Obj.mapSeq (·.setIfInBounds j u) { cls := .type "list", data := .seq its.toArray n } = { cls := .type "list", data := .seq (its.set j u).toArray n } := by
  simp [Obj.mapSeq]
theorem Inv.lst {pins : List (Addr × Obj)} {σ : St} {H : Hp} {s : Shared} {p : Addr} {xs : List V} (I : Inv X pins σ H s) (h : H p = some (.lst xs)) :
    ∃ (its : List Value) (n : Nat), Vals xs its /\ s.heap.get? p = some { cls := .type "list", data := .seq its.toArray n } /\ xs.length <= sizeLine := by
  obtain ⟨z, its, n, r, e⟩ := I.hok p _ h
  exact ⟨its, n, r, e, z⟩
theorem Inv.lstUpd {pins : List (Addr × Obj)} {σ : St} {H : Hp} {s : Shared} {p : Addr} {xs ys : List V} {its its' : List Value} {n n' : Nat} {f : Obj -> Obj} (I : Inv X pins σ H s) (h : H p = some (.lst xs))
    (ho : s.heap.get? p = some { cls := .type "list", data := .seq its.toArray n }) (hf : f { cls := .type "list", data := .seq its.toArray n } = { cls := .type "list", data := .seq its'.toArray n' }) (r : Vals ys its') (hz : ys.length <= sizeLine) (t : Nat) :
    Inv X pins σ (upd H p (.lst ys)) { s with heap := s.heap.update p f, toks := t } := by
  have e : (s.heap.update p f).get? p = some { cls := .type "list", data := .seq its'.toArray n' } := by
    rw [Heap.get?_update_self f ho (by rw [hf] <;> rfl), hf]
  refine I.write (x := p) (e := p) (by rw [h]; trivial) (.inl rfl) (fun b u hb q => (Heap.get?_update_other _ _ (Ne.symm hb)).trans q) ⟨_, e⟩ ?_
  exact ⟨hz, its', n', r, e⟩
def rSetL : V -> V -> V -> Hp -> (Hp -> Prop) -> Prop := fun o i v H Q => ∃ p xs k j, o = .ref p /\ i = .int k /\ H p = some (.lst xs) /\ ixN xs.length k = some j /\ Q (upd H p (.lst (xs.set j v)))
theorem set_list : PSet X rSetL := by
  intro pins s σ H o i v ov iv u Q I ro ri rv h
  obtain ⟨p, xs, k, j, rfl, rfl, hp, hj, q⟩ := h
  cases ro
  obtain ⟨t, rfl⟩ := ri
  obtain ⟨its, n, r, ho, hz⟩ := I.lst hp
  obtain ⟨h1, h2, h3, h4⟩ := ixN_seq hj
  have hl := r.length
  have hn := line63
  have I' : Inv X pins σ (upd H p (.lst (xs.set j v))) { s with heap := s.heap.update p (Obj.mapSeq (·.setIfInBounds j u)) } :=
    I.lstUpd hp ho (mapSeq_set its n j u) (r.set rv j) (by rw [List.length_set]; exact hz) s.toks
  by_cases h0 : 0 <= k
  · have hk : k.toNat = j := by
      rw [seqIndex_of h0 h4] at h1
      exact Option.some.inj h1
    exact PySem.W.ki_setAt ho h0 (by lia) (by rw [List.size_toArray, <- hl]; exact h4) (by rw [hk]; exact ⟨_, I', q⟩)
  · have hk : (k + (its.toArray.size : Int)).toNat = j := by
      rw [seqIndex_neg (by lia) h3] at h1
      rw [List.size_toArray, <- hl]
      exact Option.some.inj h1
    exact PySem.W.ki_setBack ho (by lia) (by rw [List.size_toArray, <- hl]; exact h3) (by lia) (by rw [hk]; exact ⟨_, I', q⟩)
theorem slice_bounds (lo hi : Option Int) (n : Nat) : (sliceBounds lo hi none n).1 = ((HT.sIx n 0 lo : Nat) : Int) /\ (sliceBounds lo hi none n).2.1 = ((HT.sIx n n hi : Nat) : Int) /\ (sliceBounds lo hi none n).2.2 = 1 := by
  refine ⟨?_, ?_, rfl⟩
  · cases lo with
    | none => simp [sliceBounds, HT.sIx]
    | some i =>
      simp only [sliceBounds, HT.sIx, Option.getD_none, show (1 : Int) > 0 by decide, if_true]
      by_cases h : i < 0
      · simp only [h, if_true] <;> lia
      · simp only [h, if_false] <;> lia
  · cases hi with
    | none => simp [sliceBounds, HT.sIx]
    | some i =>
      simp only [sliceBounds, HT.sIx, Option.getD_none, show (1 : Int) > 0 by decide, if_true]
      by_cases h : i < 0
      · simp only [h, if_true] <;> lia
      · simp only [h, if_false] <;> lia
theorem slicePick_cut (its : List Value) (lo hi : Option Int) : slicePick its.toArray lo hi none = ((its.drop (HT.sIx its.length 0 lo)).take (HT.sIx its.length its.length hi - HT.sIx its.length 0 lo)).toArray := by
  obtain ⟨h1, h2, h3⟩ := slice_bounds lo hi its.toArray.size
  unfold slicePick
  rw [h1, h2, h3]
  simp only [sliceRange_one, pick_run, List.size_toArray] <;> rfl
def rSlL (K : PySem.W.Frag) : V -> Option Int -> Option Int -> Hp -> VK -> Prop := fun x lo hi H Q => ∃ a xs, x = .ref a /\ SqL K H a xs /\ ∀ p, H p = none -> Q (.ref p) (upd H p (.lst (cutV xs lo hi)))
theorem sl_list : SlR X (rSlL X.K) := by
  intro pins s σ H x v vl vu lo hi sl Q I rx hs pl pu h
  obtain ⟨a, xs, rfl, hx, q⟩ := h
  cases rx
  obtain ⟨its, r, ht, hz⟩ := I.list hx
  have hlen := r.length
  refine ⟨"list", _, slot_list_getitem.lookup, ht.isList.typeIs, ?_⟩
  refine wpAny_getItem_list_slice ht.isList hs pl pu .none (by simp) ?_ (by rw [List.size_toArray] <;> lia)
  rw [slicePick_cut, <- hlen]
  refine ⟨.ref s.heap.objs.size, _, I.laid (t' := s.toks) (o := .lst (cutV xs lo hi)) (fun b ob q => Heap.get?_push_of_some _ q) (Nat.le_refl _) ?_, rfl, q _ (I.hok.fresh (Nat.le_refl _))⟩
  exact ⟨Nat.le_trans (cutV_length xs lo hi) hz, _, 0, (r.drop (HT.sIx xs.length 0 lo)).take (HT.sIx xs.length xs.length hi - HT.sIx xs.length 0 lo), Heap.get?_push_size _ rfl⟩
def flatV : V -> Bool
  | .non => true
  | .bl _ => true
  | .int _ => true
  | .str _ => true
  | _ => false
def eqV : V -> V -> Bool
  | .non, .non => true
  | .bl a, .bl b => a == b
  | .bl a, .int b => (if a then 1 else 0) == b
  | .int a, .bl b => a == (if b then 1 else 0)
  | .int a, .int b => a == b
  | .str a, .str b => a == b
  | _, _ => false
theorem eqAt_V {A : Around} {s : Shared} {y x : V} {u v : Value} (ry : RelV y u) (rx : RelV x v) (fy : flatV y = true) (fx : flatV x = true) : SeqAt.EqAt A s u v (eqV y x) := by
  cases y with
  | non =>
    cases ry
    cases x with
    | non => cases rx; exact SeqAt.EqAt.same _
    | bl b => cases rx; exact SeqAt.EqAt.none_bool b
    | int b => obtain ⟨t, rfl⟩ := rx; exact SeqAt.EqAt.none_int b t
    | str b => obtain ⟨t, rfl⟩ := rx; exact SeqAt.EqAt.none_str b t
    | _ => exact absurd (show false = true from fx) Bool.false_ne_true
  | bl a =>
    cases ry
    cases x with
    | non => cases rx; exact SeqAt.EqAt.bool_none a
    | bl b => cases rx; exact SeqAt.EqAt.bool_bool a b
    | int b => obtain ⟨t, rfl⟩ := rx; exact SeqAt.EqAt.bool_int a b t
    | str b => obtain ⟨t, rfl⟩ := rx; exact SeqAt.EqAt.bool_str a b t
    | _ => exact absurd (show false = true from fx) Bool.false_ne_true
  | int a =>
    obtain ⟨t', rfl⟩ := ry
    cases x with
    | non => cases rx; exact SeqAt.EqAt.int_none a t'
    | bl b => cases rx; exact SeqAt.EqAt.int_bool a t' b
    | int b => obtain ⟨t, rfl⟩ := rx; exact SeqAt.EqAt.int_int a t' b t
    | str b => obtain ⟨t, rfl⟩ := rx; exact SeqAt.EqAt.int_str a t' b t
    | _ => exact absurd (show false = true from fx) Bool.false_ne_true
  | str a =>
    obtain ⟨t', rfl⟩ := ry
    cases x with
    | non => cases rx; exact SeqAt.EqAt.str_none a t'
    | bl b => cases rx; exact SeqAt.EqAt.str_bool a t' b
    | int b => obtain ⟨t, rfl⟩ := rx; exact SeqAt.EqAt.str_int a t' b t
    | str b => obtain ⟨t, rfl⟩ := rx; exact SeqAt.EqAt.str_str a t' b t
    | _ => exact absurd (show false = true from fx) Bool.false_ne_true
  | _ => exact absurd (show false = true from fy) Bool.false_ne_true
theorem call_len_seq : CallR X (.builtin "len") (fun xs H Q => ∃ p ys, xs = [.ref p] /\ (SqL X.K H p ys \/ SqT X.K H p ys) /\ Q (.int ys.length) H) := by
  intro pins s σ H xs us Q I r h
  obtain ⟨p, ys, rfl, hq, q⟩ := h
  obtain ⟨u, rfl, rx⟩ := vals1 r
  cases rx
  have hn := line63
  rcases hq with hq | hq
  · obtain ⟨its, r', pl, hz⟩ := I.list hq
    have hlen := r'.length
    exact Calls.call_len_list pl.isList (by simp only [List.size_toArray] <;> lia) ⟨.int ys.length, H, I.tok _, ⟨s.toks + 1, by rw [List.size_toArray, hlen]⟩, q⟩
  · obtain ⟨its, r', pl, hz⟩ := I.tuple hq
    have hlen := r'.length
    exact len_tuple pl (by simp only [List.size_toArray] <;> lia) ⟨.int ys.length, H, I.tok _, ⟨s.toks + 1, by rw [List.size_toArray, hlen]⟩, q⟩
theorem call_list_of : CallR X (.type "list") (fun xs H Q => ∃ p ys, xs = [.ref p] /\ (SqL X.K H p ys \/ SqT X.K H p ys) /\ ∀ l, H l = none -> Q (.ref l) (upd H l (.lst ys))) := by
  intro pins s σ H xs us Q I r h
  obtain ⟨p, ys, rfl, hq, q⟩ := h
  obtain ⟨u, rfl, rx⟩ := vals1 r
  cases rx
  have fin : ∀ (its : List Value), Vals ys its -> ys.length <= sizeLine -> ∀ (h' : Heap) (c' : Nat), (∀ b o', s.heap.get? b = some o' -> h'.get? b = some o') ->
      h'.get? s.heap.objs.size = some { cls := .type "list", dict := none, data := .seq its.toArray c', slots := #[] } -> EP X pins σ Q (.ref s.heap.objs.size) { s with heap := h' } := fun its r' hz h' c' kp e =>
    ⟨.ref s.heap.objs.size, _, I.laid (t' := s.toks) kp (Nat.le_refl _) (show ObjOk X.prog X.w _ h' _ (.lst ys) from ⟨hz, its, c', r', e⟩), rfl, q _ (I.hok.fresh (Nat.le_refl _))⟩
  rcases hq with hq | hq
  · obtain ⟨its, r', pl, hz⟩ := I.list hq
    have hlen := r'.length
    obtain ⟨o, ho, hc, n, hd⟩ := pl.isList
    exact call_list_seq p (.inl rfl) ho hc hd (fun h' c' kp e => fin its r' hz h' c' kp e) (by simp only [List.size_toArray] <;> lia)
  · obtain ⟨its, r', pl, hz⟩ := I.tuple hq
    have hlen := r'.length
    obtain ⟨o, ho, hc, n, hd⟩ := pl
    exact call_list_seq p (.inr rfl) ho hc hd (fun h' c' kp e => fin its r' hz h' c' kp e) (by simp only [List.size_toArray] <;> lia)
theorem call_tuple_of : CallR X (.type "tuple") (fun xs H Q => ∃ p ys, xs = [.ref p] /\ ((SqL X.K H p ys /\ ∀ l, H l = none -> Q (.ref l) (upd H l (.tup ys))) \/ (SqT X.K H p ys /\ Q (.ref p) H))) := by
  intro pins s σ H xs us Q I r h
  obtain ⟨p, ys, rfl, h⟩ := h
  obtain ⟨u, rfl, rx⟩ := vals1 r
  cases rx
  rcases h with ⟨hq, q⟩ | ⟨hq, q⟩
  · obtain ⟨its, r', pl, hz⟩ := I.list hq
    have hlen := r'.length
    refine call_tuple_list pl.isList (fun h' kp => ?_) (by simp only [List.size_toArray] <;> lia)
    have I1 : Inv X pins σ H { s with heap := h' } := I.kept (t' := s.toks) kp
    have I2 : Inv X pins σ (upd H h'.objs.size (.tup ys)) { s with heap := h'.push { cls := .type "tuple", data := .seq its.toArray } } :=
      I1.laid (t' := s.toks) (fun b o e => Heap.get?_push_of_some _ e) (Nat.le_refl _) (show ObjOk X.prog X.w _ _ _ (.tup ys) from ⟨hz, its, r', IsTup.new _ _⟩)
    exact ⟨.ref h'.objs.size, _, I2, rfl, q _ (I1.hok.fresh (Nat.le_refl _))⟩
  · obtain ⟨its, r', pl, hz⟩ := I.tuple hq
    exact call_tuple_same pl ⟨.ref p, H, I, rfl, q⟩
def tyV (K : PySem.W.Frag) (T : String) (x : V) (H : Hp) : Prop := match x with
  | .str _ => T = "str"
  | .int _ => T = "int"
  | .ref p => (T = "list" /\ ∃ xs, SqL K H p xs) \/ (T = "tuple" /\ ∃ o, K.lookup p = some o /\ o.cls = .type "tuple" /\ o.dict = none) \/
      (T = "dict" /\ ((∃ kvs, H p = some (.dK kvs)) \/ ∃ kvs, H p = some (.dT kvs))) \/ (T = "set" /\ ∃ S n, H p = some (.set S n))
  | _ => False
theorem tyV_is {pins : List (Addr × Obj)} {σ : St} {H : Hp} {s : Shared} {T : String} {x : V} {v : Value} (I : Inv X pins σ H s) (r : RelV x v) (ty : tyV X.K T x H) :
    s.TypeIs v T /\ ∀ a, v = .ref a -> ∃ ob, s.heap.get? a = some ob /\ ob.dict = none := by
  cases x with
  | str z =>
    obtain ⟨t, rfl⟩ := r
    cases (show T = "str" from ty)
    exact ⟨typeIs_str s z t, fun _ e => nomatch e⟩
  | int i =>
    obtain ⟨t, rfl⟩ := r
    cases (show T = "int" from ty)
    exact ⟨typeIs_int s i t, fun _ e => nomatch e⟩
  | ref p =>
    cases r
    rcases ty with ⟨rfl, xs, hq⟩ | ⟨rfl, o, hk, hc, hd⟩ | ⟨rfl, hk⟩ | ⟨rfl, S, n, hk⟩
    · obtain ⟨its, _, pl, _⟩ := I.list hq
      refine ⟨pl.isList.typeIs, fun a e => ?_⟩
      cases e
      obtain ⟨o, n, e, c, hd, _⟩ := pl
      exact ⟨o, e, hd⟩
    · refine ⟨⟨o, I.kIn p o hk, hc⟩, fun a e => ?_⟩
      cases e
      exact ⟨o, I.kIn _ o hk, hd⟩
    · have z : ∃ o, s.heap.get? p = some o /\ o.ExactDict := by
        rcases hk with ⟨kvs, hk⟩ | ⟨kvs, hk⟩
        · obtain ⟨_, _, _, _, o, _, _, e, ex, _⟩ := I.hok p _ hk
          exact ⟨o, e, ex⟩
        · obtain ⟨_, _, _, _, o, _, _, e, ex, _⟩ := I.hok p _ hk
          exact ⟨o, e, ex⟩
      obtain ⟨o, e, ex⟩ := z
      refine ⟨⟨o, e, ex.1⟩, fun a e2 => ?_⟩
      cases e2
      exact ⟨o, e, ex.2.1⟩
    · obtain ⟨o, _, _, _, e, ex, _⟩ := I.hok p _ hk
      refine ⟨⟨o, e, ex.1⟩, fun a e2 => ?_⟩
      cases e2
      exact ⟨o, e, ex.2.1⟩
  | _ => exact False.elim ty
def tBM0 (K : PySem.W.Frag) (T : String) (r : V -> List V -> Hp -> VK -> Prop) (to : TE) : TE := fun σ H Q => to σ H fun x H1 => tyV K T x H1 /\ r x [] H1 Q
def tBM (K : PySem.W.Frag) (T : String) (r : V -> List V -> Hp -> VK -> Prop) (to : TE) (t : TA) : TE := fun σ H Q => to σ H fun x H1 => tyV K T x H1 /\ t σ H1 fun xs H2 => r x xs H2 Q
variable {o e : Expr} {es : List Expr} {to : TE} {t : TA} {name : Str} {apos cpos : Pos} {T id : String} {r : V -> List V -> Hp -> VK -> Prop}
theorem pe_bm0 (pa : PlainAttrs T) (slot : Slot T name id) (hty : typeOf (.builtin id) = pure (.type "method_descriptor")) (hm : MtR X id r) (ho : PE X o to)
    (hbase : attributeBase o name X.env (eval o X.env) = eval o X.env := by rfl) (hline : (apos.endLine == cpos.line) = true := by rfl) : PE X (.Call (.Attribute o name apos) [] [] cpos) (tBM0 X.K T r to) := by
  intro pins s σ H Q I h
  refine wpAny_Call_method0_late hbase hline (thn (ho pins s σ H _ I h) fun v s1 ⟨x, H1, I1, r1, ty, q1⟩ => ?_)
  obtain ⟨h1, h2⟩ := tyV_is I1 r1 ty
  exact ⟨T, id, pa, slot, hty, h1, h2, Calls.callWith_builtin rfl (PySem.evalArgs_none (hm pins s1 σ H1 x [] v [] Q I1 r1 .nil q1))⟩
theorem pe_bm (pa : PlainAttrs T) (slot : Slot T name id) (hty : typeOf (.builtin id) = pure (.type "method_descriptor")) (hm : MtR X id r) (ho : PE X o to) (ha : PA X (e :: es) t)
    (hbase : attributeBase o name X.env (eval o X.env) = eval o X.env := by rfl)
    (hfew : ((backTo cpos (starEach (e :: es) X.env)).all (fun x => !x.1) && (backToKw cpos (keywordEach [] X.env)).all (fun x => x.1.isSome)
      && decide ((e :: es).length + ([] : List Keyword).length + (if ([] : List Keyword).isEmpty then 0 else 1) < 30)) = true := by rfl)
    (hline : (apos.endLine == cpos.line) = true := by rfl) (hs : starEach (e :: es) X.env = (false, eval e X.env) :: starEach es X.env := by rfl) (hplain : (backTo cpos (starEach es X.env)).any (·.1) = false := by rfl) :
    PE X (.Call (.Attribute o name apos) (e :: es) [] cpos) (tBM X.K T r to t) := by
  intro pins s σ H Q I h
  refine wpAny_Call_method_late hbase hfew hline rfl (thn (ho pins s σ H _ I h) fun v s1 ⟨x, H1, I1, r1, ty, q1⟩ => ?_)
  obtain ⟨h1, h2⟩ := tyV_is I1 r1 ty
  refine ⟨T, id, pa, slot, hty, h1, h2, ?_⟩
  have hA := ha cpos pins s1 σ H1 _ I1 q1
  rw [hs] at hA ⊢
  refine Calls.callWith_builtin (by show (false || (backTo cpos (starEach es X.env)).any (·.1)) = false; rw [hplain] <;> rfl) (Calls.evalArgs_plain ?_)
  exact thn hA fun us s2 ⟨vs, H2, I2, r2, q2⟩ => hm pins s2 σ H2 x vs v us Q I2 r1 r2 q2
/- xs.append(e), list.index on a module's tuple .. are MtR facts of 06m -/
end
def MtM (X : Cx) (id : String) (r : V -> List V -> Hp -> VK -> Prop) : Prop :=
  ∀ (pins : List (Addr × Obj)) (s : Shared) (σ : St) (H : Hp) (x : V) (xs : List V) (v : Value) (us : List Value) (Q : VK), Inv X pins σ H s -> RelV x v -> Vals xs us -> r x xs H Q ->
    wpAny (model X.prog X.w) X.A (call (.builtin id) (v :: us)) (EP X pins σ Q) X.xe s
theorem Vals.one : ∀ {x : V} {us : List Value}, Vals [x] us -> ∃ u, us = [u] /\ RelV x u
  | _, _, .cons r .nil => ⟨_, rfl, r⟩
theorem Vals.two : ∀ {x y : V} {us : List Value}, Vals [x, y] us -> ∃ u v, us = [u, v] /\ RelV x u /\ RelV y v := by
  intro x y us h
  cases h with
  | cons r h => cases h with
    | cons q h => cases h; exact ⟨_, _, rfl, r, q⟩
theorem Vals.zero : ∀ {us : List Value}, Vals [] us -> us = []
  | _, .nil => rfl
theorem Vals.rep {xs : List V} {us : List Value} (h : Vals xs us) : ∀ k : Nat, Vals (List.replicate k xs).flatten (List.replicate k us).flatten
  | 0 => .nil
  | k + 1 => by
    rw [List.replicate_succ, List.replicate_succ, List.flatten_cons, List.flatten_cons]
    exact Vals.append h (Vals.rep h k)
theorem foldl_rep (its : List Value) : ∀ (k : Nat) (acc : List Value),
    List.foldl (fun x1 x2 => x1 ++ x2) acc.toArray (List.replicate k its.toArray) = (acc ++ (List.replicate k its).flatten).toArray
  | 0, acc => by simp
  | k + 1, acc => by
    have e : acc.toArray ++ its.toArray = (acc ++ its).toArray := by simp
    have e2 : (acc ++ its) ++ (List.replicate k its).flatten = acc ++ (List.replicate (k + 1) its).flatten := by
      rw [List.replicate_succ, List.flatten_cons, List.append_assoc]
    rw [<- e2, <- foldl_rep its k (acc ++ its), <- e, List.replicate_succ, List.foldl_cons]
section
variable {X : Cx} {pins : List (Addr × Obj)} {σ : St} {H : Hp} {s : Shared} {l b : Addr} {xs ys zs : List V}
theorem Inv.lset {its its' : List Value} {n : Nat} {f : Array Value -> Array Value} {t' : Nat} (I : Inv X pins σ H s) (hH : H l = some (.lst xs))
    (e : s.heap.get? l = some { cls := .type "list", data := .seq its.toArray n }) (hf : f its.toArray = its'.toArray) (hv : Vals ys its') (hz : ys.length <= sizeLine) :
    Inv X pins σ (upd H l (.lst ys)) { s with heap := s.heap.update l (Obj.mapSeq f), toks := t' } := by
  have q := PySem.IsL.update e f
  rw [hf] at q
  refine I.write (x := l) (e := l) (by rw [hH]; exact trivial) (.inl rfl) (fun b' u hb hu => (Heap.get?_update_other s.heap (Obj.mapSeq f) (Ne.symm hb)).trans hu) ⟨_, q⟩ ?_
  exact ⟨hz, its', _, hv, q⟩
theorem Inv.lnew {its : List Value} {t' : Nat} (I : Inv X pins σ H s) (hv : Vals ys its) (hz : ys.length <= sizeLine) :
    Inv X pins σ (upd H s.heap.objs.size (.lst ys)) { s with heap := s.heap.push { cls := .type "list", data := .seq its.toArray }, toks := t' } :=
  I.laid (fun _ _ q => Heap.get?_push_of_some _ q) (Nat.le_refl _) ⟨hz, its, 0, hv, Heap.get?_push_size _ rfl⟩
theorem Inv.fresh (I : Inv X pins σ H s) : H s.heap.objs.size = none := I.hok.fresh (Nat.le_refl _)
theorem Inv.lstM (I : Inv X pins σ H s) (hH : H l = some (.lst xs)) : xs.length <= sizeLine /\ ∃ (its : List Value) (n : Nat), Vals xs its /\ xs.length = its.length /\ s.heap.get? l = some { cls := .type "list", data := .seq its.toArray n } := by
  obtain ⟨z, its, n, r, e⟩ := I.hok l _ hH
  exact ⟨z, its, n, r, r.length, e⟩
theorem notLongL {n : Nat} (h : n <= sizeLine) : Builtin.List.listTooLong n = false := by
  unfold Builtin.List.listTooLong
  exact decide_eq_false (by lia)
end
section
variable {X : Cx}
def rAppend : V -> List V -> Hp -> VK -> Prop := fun x vs H Q => ∃ l xs y, x = .ref l /\ vs = [y] /\ H l = some (.lst xs) /\ xs.length < sizeLine /\ Q .non (upd H l (.lst (xs ++ [y])))
theorem mt_append : MtM X "list.append" rAppend := by
  intro pins s σ H x vs v us Q I rx rv h
  obtain ⟨l, xs, y, rfl, rfl, hH, hz, q⟩ := h
  cases rx
  obtain ⟨u, rfl, ru⟩ := rv.one
  obtain ⟨z, its, n, r, hl, e⟩ := I.lstM hH
  refine call_meets F.slot_list_append ⟨_, e, rfl⟩ F.entry_list_append (F.args_list_append_2 _ _) (PySem.list_append l its.toArray n u (by rw [List.size_toArray]; lia)) ⟨e, ?_⟩
  refine ⟨.non, _, I.lset (its' := its ++ [u]) hH e (by simp) (r.append (.cons ru .nil)) ?_, rfl, q⟩
  rw [List.length_append, List.length_singleton]
  lia
def rClear : V -> List V -> Hp -> VK -> Prop := fun x vs H Q => ∃ l xs, x = .ref l /\ vs = [] /\ H l = some (.lst xs) /\ Q .non (upd H l (.lst []))
theorem mt_clear : MtM X "list.clear" rClear := by
  intro pins s σ H x vs v us Q I rx rv h
  obtain ⟨l, xs, rfl, rfl, hH, q⟩ := h
  cases rx
  have hus := rv.zero
  subst hus
  obtain ⟨z, its, n, r, hl, e⟩ := I.lstM hH
  refine call_meets F.slot_list_clear ⟨_, e, rfl⟩ F.entry_list_clear (F.args_list_clear_1 _) (AutoSeq1.list_clear_list_0 l its.toArray n (by rw [List.size_toArray]; lia)) ⟨e, ?_⟩
  exact ⟨.non, _, I.lset (its' := []) (ys := []) hH e rfl .nil (Nat.zero_le _), rfl, q⟩
def rCat : R2 := fun x y H Q => ∃ l b xs zs, x = .ref l /\ y = .ref b /\ H l = some (.lst xs) /\ H b = some (.lst zs) /\ xs.length + zs.length <= sizeLine /\ ∀ p, H p = none -> Q (.ref p) (upd H p (.lst (xs ++ zs)))
theorem op_cat : OpR X (binaryOp .Add) rCat := by
  intro pins s σ H x y v u Q I rx ry h
  obtain ⟨l, b, xs, zs, rfl, rfl, hH, hB, hz, q⟩ := h
  cases rx
  cases ry
  obtain ⟨z, its, n, r, hl, e⟩ := I.lstM hH
  obtain ⟨z2, its2, n2, r2, hl2, e2⟩ := I.lstM hB
  refine PySem.P.add_list e e2 ?_ (by rw [List.size_toArray, List.size_toArray]; lia)
  have ea : its.toArray ++ its2.toArray = (its ++ its2).toArray := by simp
  rw [ea]
  exact ⟨.ref _, _, I.lnew (t' := s.toks) (r.append r2) (by rw [List.length_append]; lia), rfl, q _ I.fresh⟩
def rRep : R2 := fun x y H Q => ∃ l k xs, x = .ref l /\ y = .int k /\ H l = some (.lst xs) /\ -(2 ^ 63) <= k /\ k < 2 ^ 63 /\ xs.length * k.toNat <= sizeLine /\
  ∀ p, H p = none -> Q (.ref p) (upd H p (.lst (List.replicate k.toNat xs).flatten))
theorem len_rep {α : Type} (xs : List α) (k : Nat) : (List.replicate k xs).flatten.length = k * xs.length := by
  induction k with
  | zero => simp
  | succ k ih => rw [List.replicate_succ, List.flatten_cons, List.length_append, ih, Nat.succ_mul, Nat.add_comm]
theorem op_rep : OpR X (binaryOp .Mult) rRep := by
  intro pins s σ H x y v u Q I rx ry h
  obtain ⟨l, k, xs, rfl, rfl, hH, h1, h2, hz, q⟩ := h
  cases rx
  obtain ⟨t, rfl⟩ := ry
  obtain ⟨z, its, n, r, hl, e⟩ := I.lstM hH
  have hlen : its.toArray.size * k.toNat <= sizeLine := by rw [List.size_toArray, <- hl]; exact hz
  have hcap : ¬ its.toArray.size * k.toNat > (2 ^ 63 - 1) / 8 := by
    have : (sizeLine : Nat) <= (2 ^ 63 - 1) / 8 := by decide
    lia
  have hfit : ¬ (!Builtin.List.listFitsIndex k) = true := by
    rw [fitsIndex_both h1 h2]
    exact Bool.false_ne_true
  have hlong : ¬ Builtin.List.listTooLong (its.toArray.size * k.toNat) = true := by
    rw [notLongL hlen]
    exact Bool.false_ne_true
  have hnew : List.foldl (fun x1 x2 => x1 ++ x2) #[] (List.replicate (if its.toArray.isEmpty = true then 0 else k.toNat) its.toArray) = (List.replicate k.toNat its).flatten.toArray := by
    have f0 : ∀ m : Nat, List.foldl (fun x1 x2 => x1 ++ x2) #[] (List.replicate m its.toArray) = (List.replicate m its).flatten.toArray := fun m => by
      have := foldl_rep its m []
      rw [List.nil_append] at this
      exact this
    rw [f0]
    cases its with
    | nil => simp
    | cons a r' => rw [if_neg (by simp)]
  refine wpAny_binaryOp_repeat_ref (T := "list") (U := "int") (by decide) ⟨_, e, rfl⟩ (fun s' => typeIs_int s' k t) noFill_list_mul F.fills_int_mul F.slot_int_rmul repeat_list F.slot_int_index.lookup
    (call_meets F.slot_int_rmul (typeIs_int s k t) F.entry_int_rmul (F.args_int_rmul_2 _ _) (int___rmul___int_list k t l its.toArray n)
      ⟨e, rfl, ⟨_, e, rfl⟩, call_meets F.slot_list_mul ⟨_, e, rfl⟩ F.entry_list_mul (F.args_list_mul_2 _ _) (AutoListH.list___mul___list_int_3 l its.toArray n k t hfit hcap hlong) ⟨e, ?_⟩⟩)
  rw [hnew]
  exact ⟨.ref _, _, I.lnew (t' := s.toks) (r.rep k.toNat) (by rw [len_rep, Nat.mul_comm]; exact hz), rfl, q _ I.fresh⟩
end
section
variable {prog : Program} {w : World} {A : Around} {E : Value -> Shared -> Prop} {s : Shared}
set_option maxRecDepth 100000 in
end
section
variable {X : Cx}
end
end L2
namespace Att
open PySem PySem.W PySem.Calls PyProof.Rows
theorem ints_of_wellAll {P : Params} {h : Heap} : ∀ (ns : List Int) (vs : List Value), WellAll P h vs (ns.map WData.int) -> IntsAre vs ns := by
  intro ns
  induction ns with
  | nil =>
    intro vs w
    rw [List.map_nil] at w
    cases w
    exact .nil
  | cons n ns ih =>
    intro vs w
    rw [List.map_cons] at w
    cases w with
    | cons a b =>
      cases a
      exact .cons _ _ (ih _ b)
theorem script_of {l : OpenLaw} {n : Nat} (hn : l.most = some n) {P : Params} {h : Heap} {args : List WData} {vals : List Value}
    (hpre : l.row.toRowW.claim.pre args = true) (hwl : WellAll P h vals args) :
    ∃ a vs ns, vals = [Value.ref a] /\ args = [WData.list (ns.map WData.int)] /\ h.get? a = some { cls := .type "list", data := .seq vs.toArray } /\ IntsAre vs ns /\ ns.length <= n := by
  have hsh : WShape.hasAll [] args [.list .int] = true := (pre_splitW hpre).1
  have hc : l.pre.holds [] { args := args } = true := (pre_splitW hpre).2
  obtain ⟨d, r, rfl, h1, h2⟩ := hasAllW_cons hsh
  obtain rfl := hasAllW_nil h2
  obtain ⟨xs, rfl, h3⟩ := hasW_list h1
  obtain ⟨ns, rfl⟩ := items_int h3
  have hlen : ns.length <= n := by
    unfold OpenLaw.pre at hc
    have h4 : (WTm.not (.lt (.lit (.int (n : Int))) (.len (.arg 0)))).holds [] { args := [.list (ns.map .int)] } = true := by
      have h4 := (holds_andW hc).1
      rw [hn] at h4
      exact h4
    have h5 := condW_of h4 (w_not (w_lt w_lit (w_len_list (w_arg rfl))))
    rw [List.length_map] at h5
    refine Nat.le_of_not_lt fun q => ?_
    have q' : (n : Int) < ((ns.length : Nat) : Int) := by lia
    first
      | (rw [decide_eq_true q'] at h5; exact absurd h5 (by decide))
      | (simp at h5; lia)
  cases hwl with
  | cons w1 w2 =>
    cases w2
    cases w1 with
    | list ho hall => exact ⟨_, _, ns, rfl, rfl, ho, ints_of_wellAll ns _ hall, hlen⟩
theorem post_true (l : OpenLaw) (args : List WData) : l.row.toRowW.claim.post args (.bool true) args = true :=
  postW_of (r := l.row.toRowW) (X := (true == true))
    (show WShape.has [] (.bool true) .bool = true by first | rfl | decide | simp [WShape.has, WShape.arms, WShape.armsAll])
    (show (WTm.eq .res (.lit (.bool true))).value [] { args := args, res := some (.bool true), after := args } = some (.bool (true == true)) from w_eq_bool (w_res rfl) w_lit) rfl
theorem attach_call {l : OpenLaw} {n : Nat} {q : Program} {loose : List Str} {XP : (Str -> Option Value) -> Heap -> Prop} {YP : World -> Heap -> Prop} {d : DefRec}
    (hn : l.most = some n) (hdf : d.params.defaults = [])
    (call : ∀ (w : World) (s₀ s₁ : Shared) (mg mb : Str -> Option Value) (fa : Addr) (o : Obj) (pm cd doc : Value) (a : Addr) (vs : List Value) (ns : List Int),
      Ground q loose [] XP w s₀ mg mb s₁.heap -> YP w s₁.heap ->
      s₁.heap.get? fa = some o -> o.data = .func (docDef d.name d.params d.body d.scope pm cd doc) -> s₁.heap.CodeRec cd d.name -> mg d.name = some (.ref fa) ->
      s₁.heap.get? a = some { cls := .type "list", data := .seq vs.toArray } -> IntsAre vs ns -> ns.length <= n -> s₁.gens = #[] ->
      codeAny (model l.prog w) callerA (.call (.ref fa) ⟨[.ref a], []⟩) (fun r s' => r = .ok (.ret (.bool true)) /\ OldK s₁.heap s'.heap /\ s'.os = s₁.os /\ AllBare s'.gens) s₁) :
    WalkO q loose XP YP l.row.toRowW d [] (fun f vs => PySem.call f vs) := by
  intro w s₀ s₁ mg mb G Y fa o pm cd doc dV kV ho hd hcd hD hmg hg args vals as hpre hlay hrd hwl hlo
  obtain rfl : dV = .none := Dflts.none hD hdf
  obtain rfl : kV = .none := Dflts.noKw hD
  obtain ⟨a, vs, ns, rfl, rfl, hobj, hints, hlen⟩ := script_of hn hpre hwl
  refine enter_call (codeAny_mono (call w s₀ s₁ mg mb fa o pm cd doc a vs ns G Y ho (fd_plain hd) hcd hmg hobj hints hlen hg) fun r s' hq => ?_)
  obtain ⟨rfl, h2, h3, h4⟩ := hq
  exact ⟨.inl ⟨.bool true, .bool true, [], rfl, fun _ => rfl, .bool true, post_true l _, fun _ => ⟨List.Pairwise.nil, fun _ hm => (nomatch hm)⟩⟩, h2, h3, h4⟩
section
variable {prog : Program} {w : World} {A : Around} {E : Value -> Shared -> Prop} {s : Shared} {K : Frag}
end
end Att
namespace L2
open PySem PySem.Spec PyProof.Rows
theorem vals_ints : ∀ {vs : List Value} {ns : List Int}, IntsAre vs ns -> Vals (ns.map V.int) vs
  | _, _, .nil => .nil
  | _, _, .cons n t h => .cons ⟨t, rfl⟩ (vals_ints h)
def Only (H : Hp) : Prop := ∀ b, H b = none \/ ∃ o xs, H b = some (.frz o (.lst xs))
theorem law_call {P : Program} {w : World} {K : PySem.W.Frag} {mg mb : Str -> Option Value} {CX : CXT} {k : Nat} {fa a : Addr} {fd : FuncData} {x : Str} {sp : Sp} {s₁ : Shared} {vs : List Value} {ns : List Int}
    (KX : K.In s₁.heap) (hns : s₁.heap.Ns mainGlobals mg) (hb : s₁.heap.Ns builtinsNs mb) (hbb : ∀ x : Str, x ≠ "__name__" -> mb x = bootBuiltins x) (hlim : s₁.heap.NoLimit) (hg : s₁.gens = #[])
    (ha : s₁.heap.get? a = some { cls := .type "list", data := .seq vs.toArray }) (hi : IntsAre vs ns) (hl : ns.length <= sizeLine) (hr : Room k callerA)
    (F : ∀ base : Heap, K.In base -> base.Ns mainGlobals mg -> FnOk P w K mg base CX k fa fd [x] sp) (hbind : ∀ (s : Shared) (u : Value), BindsTo s fd ⟨[u], []⟩ [(x, u)])
    (hsp : ∀ H : Hp, Only H -> SqL K H a (ns.map V.int) -> sp [.ref a] H (fun v _ => v = .bl true) fun _ _ _ => False)
    (hCX : ∀ H e s', CX [] H s₁ (fun _ _ _ => False) e s' -> False) :
    codeAny (model P w) callerA (.call (.ref fa) ⟨[.ref a], []⟩) (fun r s' => r = .ok (.ret (.bool true)) /\ OldK s₁.heap s'.heap /\ s'.os = s₁.os /\ AllBare s'.gens) s₁ := by
  have rv := vals_ints hi
  have lenV := hi.length
  have core : ∀ H : Hp, Only H -> SqL K H a (ns.map V.int) -> HOk P w H s₁.heap -> (∀ b, H b ≠ none -> b = a) -> (H a ≠ none -> K.lookup a = none) ->
      codeAny (model P w) callerA (.call (.ref fa) ⟨[.ref a], []⟩) (fun r s' => r = .ok (.ret (.bool true)) /\ OldK s₁.heap s'.heap /\ s'.os = s₁.os /\ AllBare s'.gens) s₁ := by
    intro H hO hS hok hA hK
    have base_of : ∀ {b : Addr} {o : Obj}, s₁.heap.get? b = some o -> H b = none -> (hidT s₁.heap H).get? b = some o := fun e n => hidT_get e n
    have noA : ∀ {b : Addr} {o : Obj} {es : Array DictEntry} {ep : Nat}, s₁.heap.get? b = some o -> o.data = .dict es ep -> H b = none := fun {b o es ep} e d => by
      cases q : H b with
      | none => rfl
      | some u =>
        have e' : b = a := hA b (by rw [q]; simp)
        subst e'
        rw [ha] at e; cases e
        have d' : Data.seq vs.toArray _ = Data.dict es ep := d
        cases d'
    have nsK : ∀ {b : Addr} {m : Str -> Option Value}, s₁.heap.Ns b m -> (hidT s₁.heap H).Ns b m := fun {b m} ⟨o, es, ep, e, d, r⟩ => ⟨o, es, ep, base_of e (noA e d), d, r⟩
    have hKb : K.In (hidT s₁.heap H) := fun b o e => base_of (KX b o e) (by
      cases q : H b with
      | none => rfl
      | some u =>
        have e' : b = a := hA b (by rw [q]; simp)
        subst e'
        rw [hK (by rw [q]; simp)] at e; cases e)
    have hM : Mod K mg (hidT s₁.heap H) := ⟨hKb, nsK hns, ⟨mb, nsK hb, hbb⟩, let ⟨mc, h1, h2⟩ := hlim; ⟨mc, nsK h1, h2⟩⟩
    have e0 : Env0 P w K mg (hidT s₁.heap H) callerA [] s₁ H := ⟨rfl, hM, fun b o e => of_hidT e, Nat.le_of_eq (hidT_size _ _), trivial, fun b hb => absurd (show b ∈ ([] : List Addr) from hb) (by simp), hok, .of_eq hg⟩
    refine codeAny_mono ((F _ hKb (nsK hns)).run callerA [] s₁ H ⟨[.ref a], []⟩ [.ref a] [.ref a] _ _ hr e0 (hbind s₁ (.ref a)) (.cons rfl .nil) (hsp H hO hS)) fun r s' h => ?_
    cases r with
    | error e => exact (hCX H e s' h).elim
    | ok fl =>
      cases fl with
      | next => exact False.elim h
      | brk => exact False.elim h
      | cont => exact False.elim h
      | ret u =>
        obtain ⟨v, H', os, bare, un, hok', r', q⟩ := h
        have q' : v = .bl true := q
        subst q'
        obtain rfl : u = Value.bool true := r'
        refine ⟨rfl, OldK.of_keep fun b o e => ?_, os, bare⟩
        cases q : H b with
        | none => exact un.keep b o e q (by intro z; exact absurd (show b ∈ ([] : List Addr) from z) (by simp)) (by simp)
        | some u =>
          rcases hO b with z | ⟨ob, xs, z⟩
          · rw [q] at z; cases z
          · have z2 := un.frzs b ob _ z
            obtain ⟨e1, _⟩ := hok b _ z
            obtain ⟨e2, _⟩ := hok' b _ z2
            rw [e] at e1; cases e1
            exact e2
  cases hk : K.lookup a with
  | some o =>
    have e := KX a o hk
    rw [ha] at e
    cases e
    refine core (fun _ => none) (fun _ => .inl rfl) (.inr ⟨_, vs.toArray, _, hk, rfl, rfl, rfl, by rw [List.size_toArray, lenV]; exact hl, by simpa using rv⟩) (fun b u z => by have z' : (none : Option HO) = some u := z; cases z') (fun b z => absurd rfl z) fun z => absurd rfl z
  | none =>
    refine core (fun b => if b = a then some (.frz { cls := .type "list", data := .seq vs.toArray } (.lst (ns.map V.int))) else none) (fun b => ?_) (.inl (.inr ⟨{ cls := .type "list", data := .seq vs.toArray }, if_pos rfl⟩)) (fun b u z => ?_) (fun b z => ?_) fun _ => hk
    · by_cases hb : b = a
      · exact .inr ⟨_, _, if_pos hb⟩
      · exact .inl (if_neg hb)
    · by_cases hb : b = a
      · have z' := (if_pos hb).symm.trans z
        cases z'
        subst hb
        exact ⟨ha, by rw [List.length_map]; exact hl, vs, _, rv, ha⟩
      · have z' := (if_neg hb).symm.trans z
        cases z'
    · by_cases hb : b = a
      · exact hb
      · exact absurd (if_neg hb) z
abbrev KOf {K : PySem.W.Frag} {h : Heap} (_ : K.In h) : PySem.W.Frag := K
theorem walk_of {l : PySem.W.OpenLaw} {n k : Nat} {q : Program} {loose : List Str} {XP : (Str -> Option Value) -> Heap -> Prop} {YP : World -> Heap -> Prop} {d : DefRec} {K : Params -> PySem.W.Frag} {CX : World -> CXT} {sp : World -> Sp} {x : Str}
    (hn : l.most = some n) (hn2 : n <= sizeLine) (hdf : d.params.defaults = []) (hr : Room k callerA)
    (hY : ∀ (w : World) (h : Heap), YP w h -> (K w.params).In h)
    (F : ∀ (w : World) (mg : Str -> Option Value) (fa : Addr) (h : Heap), (K w.params).In h -> h.Ns mainGlobals mg -> mg d.name = some (.ref fa) ->
      ∃ fd : FuncData, (∀ (s : Shared) (u : Value), BindsTo s fd ⟨[u], []⟩ [(x, u)]) /\
        ∀ base : Heap, (K w.params).In base -> base.Ns mainGlobals mg -> FnOk l.prog w (K w.params) mg base (CX w) k fa fd [x] (sp w))
    (hsp : ∀ (w : World) (H : Hp) (a : Addr) (ns : List Int), ns.length <= n -> Only H -> SqL (K w.params) H a (ns.map V.int) -> sp w [.ref a] H (fun v _ => v = .bl true) fun _ _ _ => False)
    (hCX : ∀ (w : World) (H : Hp) (s : Shared) (e : Value) (s' : Shared), CX w [] H s (fun _ _ _ => False) e s' -> False) :
    PySem.W.WalkO q loose XP YP l.row.toRowW d [] (fun f vs => PySem.call f vs) := by
  refine Att.attach_call hn hdf fun w s₀ s₁ mg mb fa o pm cd doc a vs ns G Y ho hd hcd hmg hobj hints hlen hg => ?_
  have KX := hY w _ Y
  obtain ⟨fd, hb, hF⟩ := F w mg fa _ KX G.T.g hmg
  exact law_call KX G.T.g G.T.b G.T.builtins G.T.nolimit hg hobj hints (Nat.le_trans hlen hn2) hr hF hb (fun H hO hS => hsp w H a ns hlen hO hS) fun H e s' => hCX w H s₁ e s'
end L2
/- THE LAST THEOREM (shape; LID, My.* are yours):
   My.Adr: a structure of the addresses that your layer names (classes, functions); My.Txt K t: a structure (Prop) of the equations over K;
   My.txt_mk : {K} {implicit addresses ..} (e1 : nsIn K mainGlobals "law" = some (some (.ref f))) (e2 : K.lookup f = some ⟨oc, od, .func (fnOf "law" "law" params body scope dV kV doc pm an cdv ct), sl⟩) (e3 : codeIn K cdv "law" = true) .. : ∃ t, My.Txt K t
set_option maxRecDepth 100000 in
set_option maxHeartbeats 0 in
theorem PySem.Challenge.cw_LID_holds : PySem.Challenge.rw_LID.Holds := by
  w_on; o_law; k_head; (case hw => w_witness2)
  k_fill
  refine L2.walk_of (l := PySem.Challenge.rw_LID) (n := 63) (k := 40) (x := "script") (CX := fun w => ..) (sp := fun _ => My.sp_law) rfl (by decide) rfl ⟨rfl, by decide, by decide⟩ (fun w h Y => PySem.W.kIn_of Y) ?F ?S ?C
  case F =>
    intro w mg fa h KX G hmg
    have T : ∃ t, My.Txt (L2.KOf KX) t := by
      dsimp only [L2.KOf]                          -- K must stand as «<heap const> w.params» for k_is
      refine' My.txt_mk ?e1 ?e2 ?e3 ..
      (case e1 => PySem.W.k_is)                    -- in the order: a name -> its address -> its object -> its parts
      (case e2 => PySem.W.k_is)
      ..
    obtain ⟨t, T⟩ := T
    have e0 := hmg.symm.trans (PySem.W.mg_of KX G T.law)
    cases e0                                       -- fa is the law's own address
    exact ⟨_, fun s u => .of_eq rfl, fun base kb nb => My.law_fn T kb nb⟩     -- if «.of_eq rfl» comes too early: refine' ⟨_, ?b, fun base kb nb => My.law_fn T kb nb⟩; exact fun s u => .of_eq rfl
  case S => exact fun w H a ns hl hO hS => ..
  case C => exact ..
(the tactic k_is has no namespace: write k_is) -/
namespace L2
open PySem PySem.Spec PyProof.Rows
def defArgs (s : Stmt) : Arguments := match s with
  | .FunctionDef _ a _ _ _ _ _ _ _ _ => a
  | _ => { posonlyargs := [], args := [], vararg := none, kwonlyargs := [], kw_defaults := [], kwarg := none, defaults := [] }
def defBody (s : Stmt) : List Stmt := match s with
  | .FunctionDef _ _ b _ _ _ _ _ _ _ => b
  | _ => []
def defScope (s : Stmt) : Scope := match s with
  | .FunctionDef _ _ _ _ _ _ sc _ _ _ => sc
  | _ => { kind := .function, names := [], isGenerator := false, isCoroutine := false }
abbrev CX0 : CXT := fun _ _ _ _ _ _ => False
abbrev E0 : XK := fun _ _ _ => False
theorem pass0 {X : Cx} : Passes CX0 X E0 := fun _ _ _ _ _ _ _ h => h.elim
structure Fun (K : PySem.W.Frag) (x qual : Str) (st : Stmt) (f : Addr) (fd : FuncData) : Prop where
  ex : ∃ (oc : Value) (od : Option Addr) (kV doc pm : Value) (an : Option Addr) (cdv ct : Value) (osl : Array (Option Value)),
    fd = PySem.W.fnOf x qual (defArgs st) (defBody st) (defScope st) .none kV doc pm an cdv ct /\ K.lookup f = some ⟨oc, od, .func fd, osl⟩ /\ PySem.W.codeIn K cdv qual = true
  kp : PySem.W.keepIn K (.ref f) = true
section
variable {P : Program} {w : World} {K : PySem.W.Frag} {mg : Str -> Option Value} {base : Heap}
theorem Fun.ok {x qual : Str} {st : Stmt} {f : Addr} {fd : FuncData} {N ps : List Str} {k : Nat} {sp : Sp} (F : Fun K x qual st f fd) (S : FnScope N ps (defScope st)) (len : ∀ vs H Q E, sp vs H Q E -> vs.length = ps.length)
    (hbody : ∀ (cdv : Value) (A : Around) (outer : List Env) (s : Shared) (H : Hp) (vs : List V) (Q : VK) (E : XK), Room k (A.deeper (envOfC qual (defScope st) s.heap.objs.size f cdv)) -> sp vs H Q E ->
      ∃ t, PSs (cxOf CX0 P w K mg base N qual (defScope st) f cdv A outer s H E).nox (defBody st) t /\ t { nx := fun _ H' => Q .non H', rt := Q } (start N vs) H) : FnOk P w K mg base CX0 (k + 1) f fd ps sp := by
  obtain ⟨oc, od, kV, doc, pm, an, cdv, ct, osl, rfl, lk, hcd⟩ := F.ex
  refine fn_of lk hcd S len fun A outer s H vs Q E hr hsp => ?_
  obtain ⟨t, h, q⟩ := hbody cdv A outer s H vs Q E hr hsp
  exact ⟨t, h.nox, q⟩
theorem Fun.binds {x qual : Str} {st : Stmt} {f : Addr} {fd : FuncData} {ps : List Str} (F : Fun K x qual st f fd)
    (h : ∀ (kV doc pm : Value) (an : Option Addr) (cdv ct : Value) (us : List Value), us.length = ps.length -> bindArgs (PySem.W.fnOf x qual (defArgs st) (defBody st) (defScope st) .none kV doc pm an cdv ct) ⟨us, []⟩ = pure (ps.zip us)) : Binds K fd ps [] := by
  obtain ⟨oc, od, kV, doc, pm, an, cdv, ct, osl, rfl, lk, hcd⟩ := F.ex
  exact .all (h kV doc pm an cdv ct)
theorem fun_mk {x qual : Str} {st : Stmt} {f : Addr} {oc : Value} {od an : Option Addr} {osl : Array (Option Value)} {kV doc pm cdv ct : Value} (l : K.lookup f = some ⟨oc, od, .func (PySem.W.fnOf x qual (defArgs st) (defBody st) (defScope st) .none kV doc pm an cdv ct), osl⟩)
    (c : PySem.W.codeIn K cdv qual = true) (k : PySem.W.keepIn K (.ref f) = true) : Fun K x qual st f (PySem.W.fnOf x qual (defArgs st) (defBody st) (defScope st) .none kV doc pm an cdv ct) := ⟨⟨oc, od, kV, doc, pm, an, cdv, ct, osl, rfl, l, c⟩, k⟩
end
theorem hu_of {A : Around} {k : Nat} (hr : Room k A) : A.units + 1 < cLine := Nat.lt_of_le_of_lt (Nat.add_le_add_left (by decide : 1 <= 64) _) hr.units
section
variable {X : Cx}
theorem pv (i : Nat) {x : Str} {pos : Pos} (hN : X.N[i]? = some x := by rfl) (hv : Vis X.env.scope x := by first | exact Or.inl rfl | exact Or.inr (Or.inl rfl) | exact Or.inr (Or.inr rfl)) (hd : (x == ("__debug__" : Str)) = false := by decide)
    (hcd : (x == ("__classdict__" : Str)) = false := by decide) : PE X (.Name x pos) (tVar i) := pe_var hN hv hd hcd
end
theorem iteF {A B : Prop} (h : B) : if false = true then A else B := by
  rw [if_neg Bool.false_ne_true]
  exact h
theorem iteT {A B : Prop} (h : A) : if true = true then A else B := by
  rw [if_pos rfl]
  exact h
theorem ite2 {c A B : Prop} [Decidable c] (h1 : c -> A) (h2 : ¬ c -> B) : if c then A else B := by
  by_cases h : c
  · rw [if_pos h]
    exact h1 h
  · rw [if_neg h]
    exact h2 h
def Same (H H' : Hp) : Prop := ∀ b o, H b = some o -> H' b = some o
theorem Same.refl (H : Hp) : Same H H := fun _ _ h => h
theorem Same.trans {H H1 H2 : Hp} (a : Same H H1) (b : Same H1 H2) : Same H H2 := fun c o h => b c o (a c o h)
theorem Same.free {H H' : Hp} (e : Same H H') {l : Addr} (h : H' l = Option.none) : H l = Option.none := by
  cases q : H l with
  | none => rfl
  | some o =>
    rw [e l o q] at h
    cases h
theorem Same.seq {K : PySem.W.Frag} {H H' : Hp} {a : Addr} {xs : List V} (e : Same H H') (h : SqL K H a xs) : SqL K H' a xs := by
  rcases h with (h | ⟨o, h⟩) | h
  · exact .inl (.inl (e _ _ h))
  · exact .inl (.inr ⟨o, e _ _ h⟩)
  · exact .inr h
def PIfs (X : Cx) (ifs : List Expr) (t : TT) : Prop :=
  ∀ (pins : List (Addr × Obj)) (s : Shared) (σ : St) (H : Hp) (Q : Bool -> Hp -> Prop), Inv X pins σ H s -> t σ H Q ->
    wpAny (model X.prog X.w) X.A (forIn ifs true fun c r => if r = true then do
      let ok <- isTrue c X.env (eval c X.env)
      pure (ForInStep.yield ok) else pure (ForInStep.yield r)) (TP X pins σ Q) X.xe s
def tYes : TT := fun _ H Q => Q true H
theorem pifs_nil {X : Cx} : PIfs X [] tYes := fun _ _ _ H _ I h => wpAny_tests_nil ⟨H, I, h⟩
theorem pifs_one {X : Cx} {c : Expr} {t : TT} (h : PT X c t) : PIfs X [c] t := fun pins s σ H Q I hw => wpAny_tests_one (h pins s σ H Q I hw)
def clOf (env : Env) : List (Str × NameKind) -> List (Str × Addr) -> List (Str × Addr)
  | [], cs => cs
  | (n, k) :: r, cs => clOf env r (if (k == NameKind.free) = true then (n, (env.cells.lookup n).getD 0) :: cs else cs)
theorem clOf_loop {env : Env} : ∀ (names : List (Str × NameKind)) (cs : List (Str × Addr)), (∀ x ∈ names, x.2 = .free -> ∃ c, env.cells.lookup x.1 = some c) ->
    (forIn names cs fun (x : Str × NameKind) (r : List (Str × Addr)) => (if (x.2 == NameKind.free) = true then do
      let a <- cellOf env x.1
      pure (ForInStep.yield ((x.1, a) :: r)) else pure (ForInStep.yield r) : Sem (ForInStep (List (Str × Addr))))) = pure (clOf env names cs)
  | [], cs, _ => rfl
  | (n, k) :: r, cs, h => by
    rw [List.forIn_cons]
    by_cases hk : (k == NameKind.free) = true
    · obtain ⟨c, hc⟩ := h (n, k) List.mem_cons_self (by simpa using hk)
      have hc' : env.cells.lookup n = some c := hc
      have e1 : cellOf env n = pure c := by unfold cellOf; rw [hc']
      simp only [hk, if_true, e1, pure_bind]
      rw [clOf_loop r _ fun x hx => h x (List.mem_cons_of_mem _ hx)]
      simp [clOf, hk, hc']
    · simp only [hk, pure_bind]
      rw [if_neg (by simp), pure_bind]
      dsimp only
      rw [clOf_loop r _ fun x hx => h x (List.mem_cons_of_mem _ hx)]
      simp [clOf, hk]
theorem closure_is {scope : Scope} {env : Env} (h : ∀ x ∈ scope.names, x.2 = .free -> ∃ c, env.cells.lookup x.1 = some c) : closureFor scope env = pure (clOf env scope.names []) := by
  have e := clOf_loop scope.names [] h
  simp only [closureFor]
  first
    | (rw [e]; rfl)
    | (refine Eq.trans (congrArg (fun t => t >>= _) e) ?_; rfl)
    | (simp only [e]; rfl)
theorem clOf_get {env : Env} {x : Str} {c : Addr} : ∀ (names : List (Str × NameKind)) (cs : List (Str × Addr)), (∀ y ∈ names, y.2 = .free -> ∃ d, env.cells.lookup y.1 = some d) ->
    (clOf env names cs).lookup x = some c -> cs.lookup x = some c \/ env.cells.lookup x = some c
  | [], cs, _, e => .inl e
  | (n, k) :: r, cs, h, e => by
    have e' : (clOf env r (if (k == NameKind.free) = true then (n, (env.cells.lookup n).getD 0) :: cs else cs)).lookup x = some c := e
    rcases clOf_get r _ (fun y hy => h y (List.mem_cons_of_mem _ hy)) e' with q | q
    · by_cases hk : (k == NameKind.free) = true
      · rw [if_pos hk] at q
        obtain ⟨d, hd⟩ := h (n, k) List.mem_cons_self (by simpa using hk)
        have hd' : env.cells.lookup n = some d := hd
        rw [List.lookup_cons] at q
        by_cases hx : (x == n) = true
        · rw [hx] at q
          have ex : x = n := by simpa using hx
          subst ex
          rw [hd'] at q
          simp at q
          exact .inr (by rw [hd', q])
        · simp only [hx] at q
          exact .inl q
      · rw [if_neg hk] at q
        exact .inl q
    · exact .inr q
theorem clOf_keep {env : Env} {x : Str} : ∀ (names : List (Str × NameKind)) (cs : List (Str × Addr)), (∃ c, cs.lookup x = some c) -> ∃ c, (clOf env names cs).lookup x = some c
  | [], cs, h => h
  | (n, k) :: r, cs, h => by
    refine clOf_keep r _ ?_
    by_cases hk : (k == NameKind.free) = true
    · rw [if_pos hk, List.lookup_cons]
      cases hx : x == n with
      | true => exact ⟨_, rfl⟩
      | false => exact h
    · rw [if_neg hk]; exact h
theorem clOf_has {env : Env} {x : Str} : ∀ (names : List (Str × NameKind)) (cs : List (Str × Addr)), (x, NameKind.free) ∈ names -> ∃ c, (clOf env names cs).lookup x = some c
  | (n, k) :: r, cs, h => by
    show ∃ c, (clOf env r (if (k == NameKind.free) = true then (n, (env.cells.lookup n).getD 0) :: cs else cs)).lookup x = some c
    rcases List.mem_cons.mp h with e | e
    · cases e
      refine clOf_keep r _ ⟨(env.cells.lookup x).getD 0, ?_⟩
      rw [if_pos (by rfl), List.lookup_cons]
      simp
    · exact clOf_has r _ e
def relN (env : Env) (names : List (Str × NameKind)) : List (Str × NameKind) :=
  names.map fun (n, k) => if (k == NameKind.free && env.scope.kind == .function && env.kindOf n == some .cell) then (n, NameKind.cell) else (n, k)
theorem relN_get {env : Env} {x : Str} {k' : NameKind} : ∀ (names : List (Str × NameKind)), (relN env names).lookup x = some k' -> ∃ k, names.lookup x = some k /\ (k' = k \/ (k = .free /\ k' = .cell))
  | [], h => by simp [relN] at h
  | (n, k) :: r, h => by
    have ih := relN_get (env := env) (x := x) (k' := k') r
    have h' : ((if (k == NameKind.free && env.scope.kind == .function && env.kindOf n == some .cell) = true then (n, NameKind.cell) else (n, k)) :: relN env r).lookup x = some k' := h
    by_cases hc : (k == NameKind.free && env.scope.kind == .function && env.kindOf n == some .cell) = true
    · rw [if_pos hc, List.lookup_cons] at h'
      rw [List.lookup_cons]
      cases hx : x == n with
      | true =>
        rw [hx] at h'
        have h2 : NameKind.cell = k' := Option.some.inj h'
        have hk : k = .free := by
          cases k <;> first | rfl | (simp at hc)
        exact ⟨k, rfl, .inr ⟨hk, h2.symm⟩⟩
      | false =>
        rw [hx] at h'
        exact ih h'
    · rw [if_neg hc, List.lookup_cons] at h'
      rw [List.lookup_cons]
      cases hx : x == n with
      | true =>
        rw [hx] at h'
        exact ⟨k, rfl, .inl (Option.some.inj h').symm⟩
      | false =>
        rw [hx] at h'
        exact ih h'
def cxComp (X : Cx) (scope : Scope) (N' : List Str) (fp : List Addr) (C : Addr) (s : Shared) (H : Hp) : Cx where
  prog := X.prog
  w := X.w
  K := X.K
  mg := X.mg
  base := X.base
  A := X.A
  N := N'
  s₀ := s
  H₀ := H
  env := compEnvC scope (clOf X.env scope.names []) C X.env
  outer := X.stack
  stack := X.stack
  ex := fp
  fn := fun _ => false
  calm := true
  pn := X.pn
  xe := fun _ _ => False
def stComp (fr : List (Option Nat)) (σ : St) : St := fr.map fun o => o.bind fun j => (σ[j]?).join
def frOk (N : List Str) (kinds names : List (Str × NameKind)) (N' : List Str) (fr : List (Option Nat)) : Bool :=
  (N'.length == fr.length) && (N'.zip fr).all fun p => match p.2 with
    | none => true
    | some j => N[j]? == some p.1 && names.lookup p.1 == some NameKind.free && (kinds.lookup p.1 == some NameKind.cell || kinds.lookup p.1 == some NameKind.free)
theorem frOk_at {N : List Str} {kinds names : List (Str × NameKind)} {N' : List Str} {fr : List (Option Nat)} (h : frOk N kinds names N' fr = true) {i j : Nat} {x : Str} (h1 : N'[i]? = some x) (h2 : fr[i]? = some (some j)) :
    N[j]? = some x /\ names.lookup x = some NameKind.free /\ (kinds.lookup x = some NameKind.cell \/ kinds.lookup x = some NameKind.free) := by
  unfold frOk at h
  rw [Bool.and_eq_true, List.all_eq_true] at h
  have hm : (x, some j) ∈ N'.zip fr := by
    refine List.mem_of_getElem? (i := i) ?_
    rw [List.getElem?_zip_eq_some]
    exact ⟨h1, h2⟩
  have q := h.2 _ hm
  simp only [Bool.and_eq_true, Bool.or_eq_true, beq_iff_eq] at q
  exact ⟨q.1.1, q.1.2, q.2⟩
structure CompOk (X : Cx) (scope : Scope) (N' : List Str) (fr : List (Option Nat)) : Prop where
  kind : scope.kind = .function
  cells : ∀ y ∈ scope.names, y.2 ≠ .cell
  names : ∀ y ∈ scope.names, y.2 = .local -> scope.names.lookup y.1 = some .local
  frees : ∀ y ∈ scope.names, y.2 = .free -> X.env.kindOf y.1 = some .cell \/ X.env.kindOf y.1 = some .free
  fr : frOk X.N X.env.scope.names scope.names N' fr = true
section
variable {X : Cx} {scope : Scope} {N' : List Str} {fr : List (Option Nat)} {pins : List (Addr × Obj)} {σ : St} {H : Hp} {s : Shared} {fp : List Addr}
theorem CompOk.has (c : CompOk X scope N' fr) (ok : X.Ok) : ∀ y ∈ scope.names, y.2 = .free -> ∃ d, X.env.cells.lookup y.1 = some d := fun y hy h => ok.has _ (c.frees y hy h)
theorem inv_comp {C : Addr} {h' : Heap} {tk : Nat} {m : Str -> Option Value} (c : CompOk X scope N' fr) (hc : X.calm = true) (I : Inv X pins σ H s) (hf : ∀ b ∈ fp, FpOk X pins H b) (hlt : ∀ b ∈ fp, b < s.heap.objs.size)
    (old : ∀ b o, s.heap.get? b = some o -> h'.get? b = some o) (hC : s.heap.objs.size <= C) (hn : h'.Ns C m) :
    Inv (cxComp X scope N' fp C s H) pins (stComp fr σ) H { s with heap := h', toks := tk } := by
  have get : ∀ x d, (clOf X.env scope.names []).lookup x = some d -> X.env.cells.lookup x = some d := fun x d e => by
    rcases clOf_get scope.names [] (c.has I.ok) e with q | q
    · simp at q
    · exact q
  have old2 : ∀ b, b < s.heap.objs.size -> b ≠ C := fun b hb => Nat.ne_of_lt (Nat.lt_of_lt_of_le hb hC)
  have hl : (stComp fr σ).length = N'.length := by
    have q := c.fr
    unfold frOk at q
    rw [Bool.and_eq_true] at q
    have q1 : N'.length = fr.length := by simpa using q.1
    rw [stComp, List.length_map, q1]
  refine ⟨⟨I.ok.mod, c.kind, I.ok.glob, I.ok.blt, hC, ?_, ?_, (fun _ _ z => nomatch z), fun _ => I.ok.hd hc, I.ok.frames, .inl rfl, ?_, I.bs, Nat.le_trans I.ok.bsz I.sz, ?_, ?_, I.stack, I.stkFree⟩, rfl, I.bare, Un.kept old, ⟨m, hn, ?_⟩, ?_, I.hok.fresh hC, ?_, ?_, I.hok.kept old, hl⟩
  · exact fun x y d e1 e2 => I.ok.inj x y d (get x d e1) (get y d e2)
  · intro x hx
    have hx' : (relN X.env scope.names).lookup x = some .cell \/ (relN X.env scope.names).lookup x = some .free := hx
    have fin : scope.names.lookup x = some .free -> ∃ d, (clOf X.env scope.names []).lookup x = some d := fun e => clOf_has scope.names [] (PySem.mem_of_lookup e)
    rcases hx' with q | q
    · obtain ⟨k, e, z⟩ := relN_get scope.names q
      rcases z with z | ⟨z, _⟩
      · subst z
        exact absurd rfl (c.cells _ (PySem.mem_of_lookup e))
      · subst z
        exact fin e
    · obtain ⟨k, e, z⟩ := relN_get scope.names q
      rcases z with z | ⟨_, z⟩
      · subst z
        exact fin e
      · cases z
  · exact fun b hb => ⟨old2 b (hlt b hb), fun x d e => (hf b hb).2.2.2.2.1 x d (get x d e)⟩
  · intro b o e hb
    rcases (hf b hb).2.2.2.1 with z | z
    · exact I.ok.noex b o e z
    · exact absurd (Nat.lt_of_lt_of_le (Heap.lt_size e) (Nat.le_trans I.ok.bsz z)) (Nat.lt_irrefl _)
  · intro b hb hs
    rcases List.mem_cons.mp (I.stkSub b hs) with z | z
    · exact (hf b hb).2.1 z
    · exact (hf b hb).2.2.1 z
  · intro i x v e1 e2 e3
    have e2' : (fr.map fun o => o.bind fun j => (σ[j]?).join)[i]? = some (some v) := e2
    rw [List.getElem?_map] at e2'
    cases q : fr[i]? with
    | none => rw [q] at e2'; cases e2'
    | some o =>
      rw [q] at e2'
      have e3' : (o.bind fun j => (σ[j]?).join) = some v := Option.some.inj e2'
      cases o with
      | none => cases e3'
      | some j =>
        have e4 : (σ[j]?).join = some v := e3'
        have e5 : σ[j]? = some (some v) := by
          cases z : σ[j]? with
          | none => rw [z] at e4; cases e4
          | some w => rw [z] at e4; exact congrArg some e4
        obtain ⟨f1, f2, f3⟩ := frOk_at c.fr e1 q
        obtain ⟨m0, hn0, hl0⟩ := I.loc
        have vis : Vis X.env.scope x := f3.elim (fun z => .inr (.inl z)) fun z => .inr (.inr z)
        obtain ⟨u, r, look⟩ := hl0 j x v f1 e5 vis
        refine ⟨u, r, ?_⟩
        rcases look with ⟨k, _⟩ | ⟨k, d, hd, hcell⟩
        · have k' : X.env.scope.names.lookup x = some .local := k
          rcases f3 with z | z <;> (rw [k'] at z; cases z)
        · refine .inr ⟨?_, d, ?_, ?_⟩
          · have e3'' : (relN X.env scope.names).lookup x = some .local \/ (relN X.env scope.names).lookup x = some .cell \/ (relN X.env scope.names).lookup x = some .free := e3
            rcases e3'' with z | z | z
            · obtain ⟨k2, e, z2⟩ := relN_get scope.names z
              rw [f2] at e
              cases e
              rcases z2 with z2 | ⟨_, z2⟩ <;> cases z2
            · exact .inl z
            · exact .inr z
          · obtain ⟨d', e⟩ := clOf_has (env := X.env) scope.names [] (PySem.mem_of_lookup f2)
            have := get x d' e
            rw [hd] at this
            cases this
            exact e
          · obtain ⟨ob, h1, h2⟩ := hcell
            exact ⟨ob, old _ _ h1, h2⟩
  · intro x d e
    obtain ⟨v, ob, h1, h2⟩ := I.cell x d (get x d e)
    exact ⟨v, ob, old _ _ h1, h2⟩
  · exact fun x d e => I.freeC x d (get x d e)
  · intro p hp
    obtain ⟨e, n, ne, nf, dd⟩ := I.pin p hp
    refine ⟨old _ _ e, n, old2 _ (Heap.lt_size e), fun hs => ?_, dd⟩
    rcases List.mem_cons.mp (I.stkSub p.1 hs) with z | z
    · exact ne z
    · exact nf z
end
section
variable {prog : Program} {w : World} {A : Around} {R : Result -> Shared -> Prop} {s : Shared}
theorem comp_loop {elt tg iter : Expr} {ifs : List Expr} {scope : Scope} {pos : Pos} {it acc : Value} {env : Env} (J : Nat -> Shared -> Prop)
    (turn : ∀ n s, J n s -> wpAny (model prog w) A (pyNext it) (fun r s1 => match r with
      | none => R (.ok .next) s1
      | some v => wpAny (model prog w) A (letOwnedTupleGo tg it v) (fun _ s2 => wpAny (model prog w) A (assign tg env v) (fun _ s3 =>
          wpAny (model prog w) A (forIn ifs true fun c r => if r = true then do
            let ok <- isTrue c env (eval c env)
            pure (ForInStep.yield ok) else pure (ForInStep.yield r)) (fun ok s4 =>
              if ok = true then wpAny (model prog w) A (eval elt env) (fun x s5 =>
                wpAny (model prog w) A (call (.builtin "list.append") [acc, x]) (fun _ s6 => ∃ m, m < n /\ J m s6) (fun _ _ => False) s5) (fun _ _ => False) s4
              else ∃ m, m < n /\ J m s4) (fun _ _ => False) s3) (fun _ _ => False) s2) (fun _ _ => False) s1) (fun _ _ => False) s)
    (n : Nat) (h : J n s) : codeAny (model prog w) A (.compLoop (.ListComp elt [⟨tg, iter, ifs, 0⟩] scope pos) 0 it acc env) R s := by
  refine codeAny_loop rfl J (fun k s1 hJ => ?_) n h
  show wpAny _ A ((compTurn (.ListComp elt [⟨tg, iter, ifs, 0⟩] scope pos) 0 it acc env).onRaise (fun y => do noteFrame y env; theTreesLotGoes y)) _ _ s1
  refine wpAny_noted (wpAny_mono (E := fun _ _ => False) ?_ (fun _ _ q => q) fun _ _ z => z.elim)
  rw [compTurn_list]
  refine wpAny_bind (wpAny_standAt (wpAny_bind (thn (turn k s1 hJ) fun r s2 h2 => ?_)))
  cases r with
  | none => exact wpAny_pure h2
  | some v =>
    refine wpAny_bind (thn h2 fun _ s3 h3 => wpAny_bind (thn h3 fun _ s4 h4 => wpAny_bind (thn h4 fun ok s5 h5 => ?_)))
    cases ok with
    | false => exact wpAny_pure ⟨rfl, h5⟩
    | true =>
      refine wpAny_bind (wpAny_bind (thn h5 fun x s6 h6 => wpAny_bind (thn h6 fun _ s7 h7 => ?_)))
      exact wpAny_pure (wpAny_pure ⟨rfl, h7⟩)
end
theorem HOk.track {P : Program} {w : World} {H : Hp} {h : Heap} {a : Addr} {o : HO} (ok : HOk P w H h) (hn : H a = none) (new : ObjOk P w (upd H a o) h a o) : HOk P w (upd H a o) h := fun b u q => by
  by_cases hb : b = a
  · subst hb
    rw [upd_same] at q
    cases q
    exact new
  · rw [upd_ne hb] at q
    exact (ok b u q).stay (fun _ _ _ r => r) (fun c r => by rw [upd_ne (ne_of_none r hn)]; exact r) fun c xs r => by rw [upd_ne (ne_of_none r hn)]; exact r
def CompW (J : It) (g : TG) (tt : TT) (te : TE) (fin : List V -> Hp -> Prop) (W : Nat -> Nat -> List V -> St -> Hp -> Prop) : Prop :=
  ∀ i m ys σ H, W i m ys σ H -> (J.stop i H /\ ys.length <= sizeLine /\ fin ys H) \/ (J.go i H /\ ys.length < sizeLine /\ ∀ x H', J.yld i H x H' -> g x σ H' fun σ2 H2 => tt σ2 H2 fun b H3 =>
    if b = true then te σ2 H3 fun y H4 => ∃ m', m' < m /\ W (i + 1) m' (ys ++ [y]) σ2 H4 else ∃ m', m' < m /\ W (i + 1) m' ys σ2 H3)
section
variable {X : Cx} {scope : Scope} {N' : List Str} {fr : List (Option Nat)} {pins : List (Addr × Obj)} {σ : St} {H : Hp} {s : Shared} {fp : List Addr} {it : Addr} {tn : Nat -> Heap -> Prop} {J : It}
  {elt tg iter : Expr} {ifs : List Expr} {g : TG} {tt : TT} {te : TE} {pos : Pos} {fin : List V -> Hp -> Prop} {W : Nat -> Nat -> List V -> St -> Hp -> Prop} {RR : Value -> Addr -> Result -> Shared -> Prop} {E : Value -> Shared -> Prop}
theorem comp_block (c : CompOk X scope N' fr) (hc : X.calm = true) (I : Inv X pins σ H s) (T : Turn X.prog X.w X.K tg J fp it tn) (st : tn 0 s.heap) (hf : ∀ b ∈ fp, FpOk X pins H b)
    (hg : ∀ fp C s H, PG (cxComp X scope N' fp C s H) tg g) (ht : ∀ fp C s H, PIfs (cxComp X scope N' fp C s H) ifs tt) (he : ∀ fp C s H, PE (cxComp X scope N' fp C s H) elt te)
    (hW : CompW J g tt te fin W) (h0 : ∃ m, W 0 m [] (stComp fr σ) H)
    (hRR : ∀ D C ys H' s', Inv X pins σ (upd H' D (.lst ys)) s' -> (∃ m, s'.heap.Ns C m) -> FpOk X pins (upd H' D (.lst ys)) C -> H' D = none -> fin ys H' -> RR (.ref D) C (.ok .next) s') :
    wpAny (model X.prog X.w) X.A (newList []) (fun acc s3 => wpAny (model X.prog X.w) X.A (newFunctionEnv scope X.env.globals (clOf X.env scope.names []) [] X.env.qual none .none (some X.env)) (fun cenv s4 =>
      codeAny (model X.prog X.w) X.A (.compStart (.ListComp elt [⟨tg, iter, ifs, 0⟩] scope pos) 0 (.ref it) acc { cenv with scope := relabel scope X.env }) (RR acc cenv.locals) s4) E s3) E s := by
  refine wpAny_newObj_type (wpAny_newFunctionEnv c.cells (by intro y hy; simp at hy) (fun h1 hns hsb => ?_) c.kind)
  dsimp only at hns hsb ⊢
  generalize hH2 : s.heap.push { cls := .type "list", dict := none, data := .seq ([] : List Value).toArray } = H2 at hns hsb ⊢
  have hD0 : s.heap.objs.size < H2.objs.size := by rw [<- hH2, Heap.size_push]; exact Nat.lt_succ_self _
  generalize hDD : s.heap.objs.size = D at hD0 ⊢
  generalize hCC : H2.objs.size = C at hns hsb hD0 ⊢
  have up : ∀ b o, s.heap.get? b = some o -> h1.get? b = some o := fun b o e => hsb.extBut b o (by
    have := Heap.lt_size e
    rw [hDD] at this
    exact Nat.ne_of_lt (Nat.lt_trans this hD0)) (Heap.get?_push_of_some _ (by rw [<- hH2]; exact Heap.get?_push_of_some _ e))
  have accD : h1.get? D = some { cls := .type "list", dict := none, data := .seq ([] : List Value).toArray } := hsb.extBut _ _ (Nat.ne_of_lt hD0) (Heap.get?_push_of_some _ (by rw [<- hH2, <- hDD]; exact Heap.get?_push_size _ rfl))
  have hlt : ∀ b ∈ fp, b < s.heap.objs.size := fun b hb => by
    obtain ⟨o, e, _⟩ := T.obj 0 _ st b hb
    exact Heap.lt_size e
  have hle : s.heap.objs.size <= C := by rw [hDD]; exact Nat.le_of_lt hD0
  generalize hX' : cxComp X scope N' fp C s H = X'
  have I1 : Inv X' pins (stComp fr σ) H { s with heap := h1, toks := s.toks + ([] : List (Str × Value)).length } := by
    subst hX'
    exact inv_comp c hc I hf hlt up hle hns
  have st1 : tn 0 h1 := T.keep _ _ _ st fun b hb o e => up b o e
  have pm : X'.prog = X.prog := by subst hX'; rfl
  have wm : X'.w = X.w := by subst hX'; rfl
  have km : X'.K = X.K := by subst hX'; rfl
  have cm : X'.calm = true := by subst hX'; rfl
  have am : X'.A = X.A := by subst hX'; rfl
  have xm : X'.xe = fun _ _ => False := by subst hX'; rfl
  have lm : X'.env.locals = C := by subst hX'; rfl
  have szm : X'.s₀.heap.objs.size = s.heap.objs.size := by subst hX'; rfl
  have nm : X'.pn = X.pn := by subst hX'; rfl
  have hg' := hg fp C s H
  have ht' := ht fp C s H
  have he' := he fp C s H
  have em : X'.env = compEnvC scope (clOf X.env scope.names []) C X.env := by subst hX'; rfl
  have fsm : X'.fs = frs X.stack := by subst hX'; rfl
  have exm : X'.ex = fp := by subst hX'; rfl
  rw [hX'] at hg' ht' he'
  have ageP : ∀ p ∈ X.pn ++ pins, p.1 < D := fun p hp => by rw [<- hDD]; exact Heap.lt_size (I.pin p hp).1
  have ageC : ∀ x d, X'.env.cells.lookup x = some d -> d < D := fun x d e => by
    rw [em] at e
    rcases clOf_get scope.names [] (c.has I.ok) e with q | q
    · simp at q
    · obtain ⟨v, z⟩ := I.cell x d q
      rw [<- hDD]
      exact z.lt
  have cellF : ∀ x d, X'.env.cells.lookup x = some d -> X.env.cells.lookup x = some d := fun x d e => by
    rw [em] at e
    rcases clOf_get scope.names [] (c.has I.ok) e with q | q
    · simp at q
    · exact q
  have fps : ∀ {H' : Hp} {oD : Obj}, (∀ b ∈ fp, H' b = none) -> ∀ b ∈ fp, FpOk X' (pins ++ [(D, oD)]) H' b := fun {H' oD} hn b hb => by
    obtain ⟨_, f1, f2, f3, f4, f5⟩ := hf b hb
    have hbD : b < D := by rw [<- hDD]; exact hlt b hb
    refine ⟨hn b hb, ?_, ?_, .inl (by rw [exm]; exact hb), fun x d e => f4 x d (cellF x d e), fun p hp => ?_⟩
    · rw [lm]; exact Nat.ne_of_lt (Nat.lt_trans hbD hD0)
    · rw [fsm]
      intro hs
      rcases List.mem_cons.mp (I.stkSub b hs) with z | z
      · exact f1 z
      · exact f2 z
    · rw [nm, <- List.append_assoc] at hp
      rcases List.mem_append.mp hp with z | z
      · exact f5 p z
      · rw [List.mem_singleton.mp z]
        exact Nat.ne_of_gt hbD
  have pinD : ∀ {σ' : St} {H' : Hp} {s' : Shared} {its : List Value} {k : Nat}, Inv X' pins σ' H' s' -> s'.heap.get? D = some { cls := .type "list", data := .seq its.toArray k } -> H' D = none ->
      Inv X' (pins ++ [(D, { cls := .type "list", data := .seq its.toArray k })]) σ' H' s' := fun {σ' H' s' its k} J0 e n => J0.pins_of fun p hp => by
    rcases List.mem_append.mp hp with z | z
    · exact J0.pin p (List.mem_append_right _ z)
    · rw [List.mem_singleton.mp z]
      refine ⟨e, n, ?_, ?_, fun v q => by cases q⟩
      · show D ≠ X'.env.locals
        rw [lm]
        exact Nat.ne_of_lt hD0
      · rw [fsm]
        intro hs
        have hb := I.stkSub D hs
        rcases List.mem_cons.mp hb with z | z
        · have := I.lt
          rw [<- z, hDD] at this
          exact Nat.lt_irrefl _ this
        · exact I.nofs (Nat.le_of_eq hDD) z
  have loop : ∀ s0 : Shared, s0 = { s with heap := h1, toks := s.toks + ([] : List (Str × Value)).length } ->
      codeAny (model X.prog X.w) X.A (.compLoop (.ListComp elt [⟨tg, iter, ifs, 0⟩] scope pos) 0 (.ref it) (.ref D) X'.env) (RR (.ref D) C) s0 := by
    rintro s0 rfl
    obtain ⟨m0, w0⟩ := h0
    refine comp_loop (fun n s' => ∃ i ys σ' H' its k, Inv X' pins σ' H' s' /\ tn i s'.heap /\ (∀ b ∈ fp, H' b = none) /\ s'.heap.get? D = some { cls := .type "list", data := .seq (its : List Value).toArray k } /\ H' D = none /\ Vals ys its /\ W i n ys σ' H')
      ?_ m0 ⟨0, [], stComp fr σ, H, [], 0, I1, st1, fun b hb => (hf b hb).1, accD, I.hok.fresh (by rw [hDD]; exact Nat.le_refl _), .nil, w0⟩
    rintro n s1 ⟨i, ys, σ1, H1, its, k, J1, t1, n1, d1, nD1, v1, w1⟩
    have J1' := pinD J1 d1 nD1
    rcases hW i n ys σ1 H1 w1 with ⟨stop, hlen, fi⟩ | ⟨go, hlen, step⟩
    · have a1 := T.done X' pm wm km cm i _ s1 σ1 H1 (fun _ _ => False) J1' (fps n1) t1 stop
      rw [am] at a1
      refine thn a1 fun r s2 ⟨hr, J2⟩ => ?_
      subst hr
      obtain ⟨d2, nD2, _⟩ := J2.pin (D, _) (List.mem_append_right _ (List.mem_append_right _ List.mem_cons_self))
      have u2 : Un (frs X.stack) fp H H1 s.heap s2.heap := by
        have := J2.base
        subst hX'
        exact this
      have hok2 : HOk X.prog X.w (upd H1 D (.lst ys)) s2.heap := by
        have h2 := J2.hok
        rw [pm, wm] at h2
        exact h2.track nD1 ⟨hlen, its, k, v1, d2⟩
      have J3 : Inv X pins σ (upd H1 D (.lst ys)) s2 := by
        refine I.call' (ch := fp) (by have := J2.os; subst hX'; exact this) ⟨fun b o e n hb hx => u2.keep b o e n hb hx, fun b o e n hb hx => u2.slot b o e n hb hx, fun b o e n hx => ?_, fun b o e hx => u2.there b o e hx, fun b xs e => ?_, fun b o u e => ?_, fun b ps e => ?_⟩ hok2 J2.bare fun b hb => ?_
        · have ne : b ≠ D := Nat.ne_of_lt (by rw [<- hDD]; exact Heap.lt_size e)
          rw [upd_ne ne]
          exact u2.free b o e n hx
        · have q := u2.tups b xs e
          rw [upd_ne (ne_of_none q nD1)]
          exact q
        · have q := u2.frzs b o u e
          rw [upd_ne (ne_of_none q nD1)]
          exact q
        · obtain ⟨more, q⟩ := u2.tbls b ps e
          exact ⟨more, by rw [upd_ne (ne_of_none q nD1)]; exact q⟩
        · obtain ⟨_, f1, f2, f3, f4, f5⟩ := hf b hb
          exact ⟨f3, f1, f4, f5⟩
      have nC : (upd H1 D (.lst ys)) C = none := by
        rw [upd_ne (Nat.ne_of_gt hD0)]
        have := J2.free
        rw [lm] at this
        exact this
      refine hRR D C ys H1 s2 J3 ?_ (I.fpOk hle nC) nD1 fi
      obtain ⟨m, hm, _⟩ := J2.loc
      rw [lm] at hm
      exact ⟨m, hm⟩
    · have a1 := T.item X' pm wm km cm i _ s1 σ1 H1 (fun _ _ => False) J1' (fps n1) t1 go
      rw [am] at a1
      refine thn a1 fun r s2 ⟨u, hr, h2⟩ => ?_
      subst hr
      refine thn h2 fun _ s3 ⟨x, H3, J3, r3, y3, t3, n3⟩ => ?_
      have J3' := J3.pinned (fps n3) (T.obj _ _ t3)
      have a3 := hg' _ s3 σ1 H3 x u _ J3' r3 (step x H3 y3)
      rw [pm, wm, am, xm] at a3
      refine thn a3 fun _ s4 ⟨σ4, H4, J4, q4⟩ => ?_
      have a4 := ht' _ s4 σ4 H4 _ J4 q4
      rw [pm, wm, am, xm] at a4
      refine thn a4 fun ok s5 ⟨H5, J5, q5⟩ => ?_
      have keepT : ∀ {σ' : St} {H' : Hp} {s' : Shared}, Inv X' (pins ++ [(D, { cls := .type "list", data := .seq its.toArray k })] ++ pinsAt fp s3.heap) σ' H' s' -> tn (i + 1) s'.heap /\ (∀ b ∈ fp, H' b = none) /\ s'.heap.get? D = some { cls := .type "list", data := .seq its.toArray k } /\ H' D = none /\ Inv X' pins σ' H' s' := fun {σ' H' s'} J0 => by
        refine ⟨T.keep _ _ _ t3 fun b hb o e => (J0.pin (b, o) (List.mem_append_right _ (List.mem_append_right _ (mem_pinsAt hb e)))).1, fun b hb => ?_, ?_, ?_, J0.unpinned.unpinned⟩
        · obtain ⟨o, e, _⟩ := T.obj _ _ t3 b hb
          exact (J0.pin (b, o) (List.mem_append_right _ (List.mem_append_right _ (mem_pinsAt hb e)))).2.1
        · exact (J0.pin (D, _) (List.mem_append_right _ (List.mem_append_left _ (List.mem_append_right _ List.mem_cons_self)))).1
        · exact (J0.pin (D, { cls := .type "list", data := .seq its.toArray k }) (List.mem_append_right _ (List.mem_append_left _ (List.mem_append_right _ List.mem_cons_self)))).2.1
      cases ok with
      | false =>
        obtain ⟨m', hm, w'⟩ := q5
        obtain ⟨e1, e2, e3, e4, e5⟩ := keepT J5
        rw [if_neg Bool.false_ne_true]
        exact ⟨m', hm, i + 1, ys, σ4, H5, its, k, e5, e1, e2, e3, e4, v1, w'⟩
      | true =>
        rw [if_pos rfl]
        have a5 := he' _ s5 σ4 H5 _ J5 q5
        rw [pm, wm, am, xm] at a5
        refine thn a5 fun u6 s6 ⟨y, H6, J6, r6, m', hm, w6⟩ => ?_
        obtain ⟨e1, e2, e3, e4, e5⟩ := keepT J6
        refine append_at (hsz := by show its.toArray.size <= sizeLine; rw [List.size_toArray, <- v1.length]; exact Nat.le_of_lt hlen) e3 fun h7 sb7 d7 => ?_
        have J7 : Inv X' pins σ4 H6 { s6 with heap := h7 } := e5.turned (t' := s6.toks) (it := D) (fun b o hb e => sb7.extBut b o hb e) e4 (by rw [lm]; exact Nat.ne_of_lt hD0) (.inr (by rw [szm, hDD]; exact Nat.le_refl _)) (fun x d e => Nat.ne_of_lt (ageC x d e)) fun p hp => by
          rw [nm] at hp
          exact Nat.ne_of_lt (ageP p hp)
        refine ⟨m', hm, i + 1, ys ++ [y], σ4, H6, its ++ [u6], k + 1, J7, T.keep _ _ _ e1 fun b hb o e => sb7.extBut b o (Nat.ne_of_lt (by rw [<- hDD]; exact hlt b hb)) e, e2, ?_, e4, v1.append (.cons r6 .nil), w6⟩
        rw [d7, List.push_toArray]
  have env1 : ({ newEnv scope C X.env.globals (clOf X.env scope.names []) X.env.qual none .none (some X.env) 0 with scope := relabel scope X.env } : Env) = X'.env := by rw [em]; rfl
  have lp := loop _ rfl
  rw [em] at lp
  exact codeAny_compStart_list lp (T.self _ 0 _ _ _ st1 lp)
def tComp (wi : TI) (fr : List (Option Nat)) (g : TG) (tt : TT) (te : TE) : TE := fun σ H Q => wi σ H fun J H1 =>
  ∃ W, CompW J g tt te (fun ys H' => ∀ p, H' p = none -> Q (.ref p) (upd H' p (.lst ys))) W /\ ∃ m, W 0 m [] (stComp fr σ) H1
theorem pe_comp {wi : TI} (c : CompOk X scope N' fr) (hc : X.calm = true) (hi : PI X tg iter wi) (hg : ∀ fp C s H, PG (cxComp X scope N' fp C s H) tg g) (ht : ∀ fp C s H, PIfs (cxComp X scope N' fp C s H) ifs tt)
    (he : ∀ fp C s H, PE (cxComp X scope N' fp C s H) elt te) (hs : ∀ x, foldedSetIterable iter X.env x = pure x := by intro _; rfl) : PE X (.ListComp elt [⟨tg, iter, ifs, 0⟩] scope pos) (tComp wi fr g tt te) := by
  intro pins s σ H Q I h
  rw [eval_ListComp]
  refine wpAny_comprehension_free (use := none) rfl hs (closure_is (c.has I.ok)) c.kind c.names (thn (hi pins s σ H _ I h) fun v s1 h1 => thn h1 fun itv s2 h2 => ?_)
  obtain ⟨it, fp, tn, J, H2, e, I2, T, st2, f2, W, hW, h0⟩ := h2
  subst e
  refine comp_block c hc I2 T st2 f2 hg ht he hW h0 ?_
  rintro D C ys H' s' J3 ⟨m, hm⟩ ⟨f0, f1, _, f3, f4, f5⟩ nD fi
  exact ⟨m, hm, fun h'' sb => ⟨.ref D, _, J3.turned (t' := s'.toks) (it := C) (fun b o hb e => sb.extBut b o hb e) f0 f1 f3 f4 f5, rfl, fi D nD⟩⟩
def tSetComp (i : Nat) (wi : TI) (fr : List (Option Nat)) (g : TG) (tt : TT) (te : TE) : TS := fun D σ H => wi σ H fun J H1 =>
  ∃ W, CompW J g tt te (fun ys H' => ∀ p, H' p = none -> D.nx (σ.set i (some (.ref p))) (upd H' p (.lst ys))) W /\ ∃ m, W 0 m [] (stComp fr σ) H1
theorem ps_setComp {wi : TI} {i : Nat} {y : Str} {py spos : Pos} (hN : X.N.Nodup) (hi' : X.N[i]? = some y) (hy : Loc X.env.scope y) (c : CompOk X scope N' fr) (hc : X.calm = true) (hi : PI X tg iter wi) (hg : ∀ fp C s H, PG (cxComp X scope N' fp C s H) tg g) (ht : ∀ fp C s H, PIfs (cxComp X scope N' fp C s H) ifs tt)
    (he : ∀ fp C s H, PE (cxComp X scope N' fp C s H) elt te) (hs : ∀ x, foldedSetIterable iter X.env x = pure x := by intro _; rfl)
    (hsw : swapsWith (.ListComp elt [⟨tg, iter, ifs, 0⟩] scope pos) (some (.Name y py)) spos.line X.env = pure true := by rfl) (hf : X.fn y = true \/ X.env.scope.names.lookup y = some .local := by first | exact .inl rfl | exact .inr rfl | assumption) :
    PS X (.Assign [.Name y py] (.ListComp elt [⟨tg, iter, ifs, 0⟩] scope pos) spos) (tSetComp i wi fr g tt te) := by
  intro pins s σ H D I h
  rw [exec_Assign_Name_used _ _ _ _ hsw]
  refine wpAny_bind (wpAny_standAt (wpAny_bind ?_))
  show wpAny _ X.A (do let _ <- comprehension (.ListComp elt [⟨tg, iter, ifs, 0⟩] scope pos) scope X.env _ (newList []) false (eval iter X.env) (some (assign (.Name y py) X.env))) _ _ s
  refine wpAny_bind (thn (wpAny_comprehension_free (use := some (assign (.Name y py) X.env)) (Q := fun _ s' => SP X pins D .next s') rfl hs (closure_is (c.has I.ok)) c.kind c.names
    (thn (hi pins s σ H _ I h) fun v s1 h1 => thn h1 fun itv s2 h2 => ?_)) fun _ s' hq => wpAny_pure (wpAny_pure hq))
  obtain ⟨it, fp, tn, J, H2, e, I2, T, st2, f2, W, hW, h0⟩ := h2
  subst e
  refine comp_block c hc I2 T st2 f2 hg ht he hW h0 ?_
  rintro B C ys H' s' J3 ⟨m, hm⟩ ⟨f0, f1, _, f3, f4, f5⟩ nD fi
  show wpAny _ X.A (assign (.Name y py) X.env (.ref B)) _ _ s'
  refine wpAny_assign_Name (store_ok2 J3 hN hi' hy (show RelV (.ref B) (.ref B) from rfl) (fun s4 J4 ⟨a, sb, ha⟩ => ?_) hf)
  have nCa : C ≠ a := by
    rcases ha with z | z
    · rw [z]; exact f1
    · exact fun q => f4 y a z q.symm
  exact ⟨m, hm.sameBut sb nCa, fun h'' sb2 => ⟨_, _, J4.turned (t' := s4.toks) (it := C) (fun b o hb e => sb2.extBut b o hb e) f0 f1 f3 f4 f5, fi B nD⟩⟩
end
section
variable {X : Cx}
theorem call_isinst : CallR X (.builtin "isinstance") (fun xs H Q => ∃ x c t u b, xs = [x, c] /\ RelV c u /\ TyOf X.K H x t /\ PySem.W.kitOne X.K t u = some b /\ Q (.bl b) H) := by
  intro pins s σ H xs us Q I r h
  obtain ⟨x, c, t, u, b, rfl, rc, ty, e, q⟩ := h
  obtain ⟨u1, u2, rfl, r1, r2⟩ := Vals.two r
  have hu : u2 = u := by
    cases c <;> first
      | exact (show u2 = _ from r2).trans (show u = _ from rc).symm
      | skip
    all_goals (exfalso; obtain ⟨_, rfl⟩ := rc; unfold PySem.W.kitOne PySem.W.kitCls at e; split at e <;> first | (cases ty <;> simp_all) | (simp at e))
  subst hu
  exact isinst_ok I r1 ty e fun tk => ⟨.bl b, H, I.tok tk, rfl, q⟩
inductive SameD (K : PySem.W.Frag) (H : Hp) : Nat -> V -> V -> Prop
  | flat {n : Nat} {x : V} (f : flatV x = true) : SameD K H n x x
  | tup {n : Nat} {a b : Addr} {xs ys : List V} (ha : SqT K H a xs) (hb : SqT K H b ys) (hl : xs.length = ys.length) (h : ∀ (i : Nat) (x y : V), xs[i]? = some x -> ys[i]? = some y -> SameD K H n x y) : SameD K H (n + 1) (.ref a) (.ref b)
  | lst {n : Nat} {a b : Addr} {xs ys : List V} (ha : SqL K H a xs) (hb : SqL K H b ys) (hl : xs.length = ys.length) (h : ∀ (i : Nat) (x y : V), xs[i]? = some x -> ys[i]? = some y -> SameD K H n x y) : SameD K H (n + 1) (.ref a) (.ref b)
theorem eqV_self {x : V} (f : flatV x = true) : eqV x x = true := by
  cases x <;> first | (exact absurd (show false = true from f) Bool.false_ne_true) | rfl | (simp [eqV])
theorem range_all_true (n : Nat) (e : Nat -> Bool) (h : ∀ i, e i = true) : (List.range n).all e = true := by
  rw [List.all_eq_true]; intro i _; exact h i
theorem in1_units {A : Around} : A.in1.units <= A.units + 1 := by
  first
    | exact Nat.le_refl _
    | exact Nat.le_succ _
    | (simp [Around.in1])
theorem SameD.rc {pins : List (Addr × Obj)} {σ : St} {H : Hp} {s : Shared} (I : Inv X pins σ H s) {n : Nat} {x y : V} (h : SameD X.K H n x y) : ∀ (A : Around), A.units + n < cLine -> ∀ (u v : Value), RelV x u -> RelV y v -> SeqAt.EqAt A s u v true := by
  induction h with
  | flat f => intro A hu u v ru rv; have := eqAt_V (A := A) (s := s) ru rv f f; rw [eqV_self f] at this; exact this
  | @tup n a b xs ys ha hb hl _ ih =>
    intro A hu u v ru rv
    cases (show u = Value.ref a from ru)
    cases (show v = Value.ref b from rv)
    by_cases e : a = b
    · subst e; exact SeqAt.EqAt.same _
    · obtain ⟨its, r1, t1, _⟩ := I.tuple ha
      obtain ⟨its2, r2, t2, _⟩ := I.tuple hb
      have hz : its.toArray.size = its2.toArray.size := by simp [<- r1.length, <- r2.length, hl]
      refine SeqAt.EqAt.of_refs e ?_
      have q := SeqAt.RcAt.tuples (e := fun _ => true) (A := A) t1 t2 (by lia) (fun j h1 h2 => ?_)
      · rw [range_all_true _ _ (fun _ => rfl), hz] at q
        simpa using q
      · have l1 : j < xs.length := by have := r1.length; simp at h1; lia
        have l2 : j < ys.length := by lia
        obtain ⟨u1, e1, q1⟩ := r1.get (i := j) (x := xs[j]) (by simp [l1])
        obtain ⟨u2, e2, q2⟩ := r2.get (i := j) (x := ys[j]) (by simp [l2])
        have w1 : its.toArray[j] = u1 := by have := List.getElem?_eq_some_iff.mp e1; simpa using this.2
        have w2 : its2.toArray[j] = u2 := by have := List.getElem?_eq_some_iff.mp e2; simpa using this.2
        rw [w1, w2]
        exact ih j _ _ (by simp [l1]) (by simp [l2]) A.in1 (by have := @in1_units A; lia) _ _ q1 q2
  | @lst n a b xs ys ha hb hl _ ih =>
    intro A hu u v ru rv
    cases (show u = Value.ref a from ru)
    cases (show v = Value.ref b from rv)
    by_cases e : a = b
    · subst e; exact SeqAt.EqAt.same _
    · obtain ⟨its, r1, t1, _⟩ := I.list ha
      obtain ⟨its2, r2, t2, _⟩ := I.list hb
      have hz : its.toArray.size = its2.toArray.size := by simp [<- r1.length, <- r2.length, hl]
      refine SeqAt.EqAt.of_refs e ?_
      have q := SeqAt.RcAt.lists (e := fun _ => true) (A := A) t1.isList t2.isList hz (by lia) (fun j h1 h2 => ?_)
      · rw [range_all_true _ _ (fun _ => rfl)] at q
        exact q
      · have l1 : j < xs.length := by have := r1.length; simp at h1; lia
        have l2 : j < ys.length := by lia
        obtain ⟨u1, e1, q1⟩ := r1.get (i := j) (x := xs[j]) (by simp [l1])
        obtain ⟨u2, e2, q2⟩ := r2.get (i := j) (x := ys[j]) (by simp [l2])
        have w1 : its.toArray[j] = u1 := by have := List.getElem?_eq_some_iff.mp e1; simpa using this.2
        have w2 : its2.toArray[j] = u2 := by have := List.getElem?_eq_some_iff.mp e2; simpa using this.2
        rw [w1, w2]
        exact ih j _ _ (by simp [l1]) (by simp [l2]) A.in1 (by have := @in1_units A; lia) _ _ q1 q2
def rSame (K : PySem.W.Frag) (out : Bool) : R2 := fun x y H Q => ∃ a b xs ys n, x = .ref a /\ y = .ref b /\ ((SqT K H a xs /\ SqT K H b ys) \/ (SqL K H a xs /\ SqL K H b ys)) /\ xs.length = ys.length /\ n <= 64 /\
  (∀ (i : Nat) (x y : V), xs[i]? = some x -> ys[i]? = some y -> SameD K H n x y) /\ Q (.bl out) H
theorem same_items {pins : List (Addr × Obj)} {σ : St} {H : Hp} {s : Shared} (I : Inv X pins σ H s) {A : Around} {n : Nat} {xs ys : List V} {its its2 : List Value} (hu : A.units + n < cLine) (r1 : Vals xs its) (r2 : Vals ys its2) (hl : xs.length = ys.length)
    (h : ∀ (i : Nat) (x y : V), xs[i]? = some x -> ys[i]? = some y -> SameD X.K H n x y) : ∀ j (h1 : j < its.toArray.size) (h2 : j < its2.toArray.size), SeqAt.EqAt A s its.toArray[j] its2.toArray[j] true := by
  intro j h1 h2
  have l1 : j < xs.length := by have := r1.length; simp at h1; lia
  have l2 : j < ys.length := by lia
  obtain ⟨u1, e1, q1⟩ := r1.get (i := j) (x := xs[j]) (by simp [l1])
  obtain ⟨u2, e2, q2⟩ := r2.get (i := j) (x := ys[j]) (by simp [l2])
  have w1 : its.toArray[j] = u1 := by have := List.getElem?_eq_some_iff.mp e1; simpa using this.2
  have w2 : its2.toArray[j] = u2 := by have := List.getElem?_eq_some_iff.mp e2; simpa using this.2
  rw [w1, w2]
  exact (h j _ _ (by simp [l1]) (by simp [l2])).rc I A hu _ _ q1 q2
theorem op_neS (hu : X.A.units + 66 < cLine) : OpR X (compareOp .NotEq) (rSame X.K false) := by
  intro pins s σ H x y v u Q I rx ry h
  obtain ⟨a, b, xs, ys, n, rfl, rfl, hk, hl, hn, hs, q⟩ := h
  cases (show v = Value.ref a from rx)
  cases (show u = Value.ref b from ry)
  have hu1 : X.A.in1.units + n < cLine := by have := @in1_units X.A; lia
  rcases hk with ⟨ha, hb⟩ | ⟨ha, hb⟩
  · obtain ⟨its, r1, t1, _⟩ := I.tuple ha
    obtain ⟨its2, r2, t2, _⟩ := I.tuple hb
    have hz : its.toArray.size = its2.toArray.size := by simp [<- r1.length, <- r2.length, hl]
    refine EqBoolInt.of_rcne (SeqAt.RcNeAt.tuples (e := fun _ => true) t1 t2 (by lia) (same_items I hu1 r1 r2 hl hs)) ?_
    rw [range_all_true _ _ (fun _ => rfl), hz]
    exact ⟨.bl false, H, I, by simp [RelV], q⟩
  · obtain ⟨its, r1, t1, _⟩ := I.list ha
    obtain ⟨its2, r2, t2, _⟩ := I.list hb
    have hz : its.toArray.size = its2.toArray.size := by simp [<- r1.length, <- r2.length, hl]
    refine EqBoolInt.of_rcne (SeqAt.RcNeAt.lists (e := fun _ => true) t1.isList t2.isList hz (by lia) (same_items I hu1 r1 r2 hl hs)) ?_
    rw [range_all_true _ _ (fun _ => rfl)]
    exact ⟨.bl false, H, I, rfl, q⟩
def rNil (K : PySem.W.Frag) (neg : Bool) : R2 := fun x y H Q => ∃ a b xs, x = .ref a /\ y = .ref b /\ SqL K H a xs /\ SqL K H b [] /\ Q (.bl (neg ^^ decide (xs = []))) H
theorem op_eqNil (hu : X.A.units + 66 < cLine) : OpR X (compareOp .Eq) (rNil X.K false) := by
  intro pins s σ H x y v u Q I rx ry h
  obtain ⟨a, b, xs, rfl, rfl, ha, hb, q⟩ := h
  cases (show v = Value.ref a from rx)
  cases (show u = Value.ref b from ry)
  obtain ⟨its, r1, t1, _⟩ := I.list ha
  obtain ⟨its2, r2, t2, _⟩ := I.list hb
  have z2 : its2 = [] := Vals.zero r2
  subst z2
  cases xs with
  | nil =>
    have z1 : its = [] := Vals.zero r1
    subst z1
    exact SeqAt.eq_listAt (e := fun _ => true) t1.isList t2.isList rfl (by lia) (fun j h1 _ => absurd h1 (by simp)) ⟨.bl true, H, I, by simp [RelV], by simpa using q⟩
  | cons x xs =>
    have hl := r1.length
    exact SeqAt.eq_list_lengthsAt t1.isList t2.isList (by simp [<- hl]) (by lia) ⟨.bl false, H, I, rfl, by simpa using q⟩
theorem kept_iter {h h' : Heap} {o : Obj} (hk : ∀ b u, b ∉ [h.objs.size] -> (h.push o).get? b = some u -> h'.get? b = some u) : ∀ b u, h.get? b = some u -> h'.get? b = some u := fun b u e =>
  hk b u (fun hm => absurd (Heap.lt_size e) (by rw [List.mem_singleton.mp hm]; exact Nat.lt_irrefl _)) (Heap.get?_push_of_some _ e)
theorem bools_at {bs : List Bool} {its : List Value} (r : Vals (bs.map V.bl) its) {i : Nat} {v : Value} (e : its.toArray[i]? = some v) : v = .bool (bs.getD i false) := by
  have e' : its[i]? = some v := by simpa using e
  have hl : i < its.length := (List.getElem?_eq_some_iff.mp e').1
  have hb : i < bs.length := by have := r.length; rw [List.length_map] at this; lia
  obtain ⟨u, e1, q⟩ := r.get (i := i) (x := V.bl bs[i]) (by simp [hb])
  rw [e1] at e'
  cases e'
  have e3 : v = Value.bool bs[i] := q
  rw [e3]
  simp [List.getD, hb]
theorem range_all_get (bs : List Bool) : (List.range bs.length).all (fun i => bs.getD i false) = bs.all id := by
  rw [Bool.eq_iff_iff, List.all_eq_true, List.all_eq_true]
  constructor
  · intro h x hx
    obtain ⟨i, hi, e⟩ := List.mem_iff_getElem.mp hx
    have := h i (List.mem_range.mpr hi)
    simp [List.getD, hi, e] at this
    exact this
  · intro h i hi
    have hi' := List.mem_range.mp hi
    have := h bs[i] (List.getElem_mem hi')
    simpa [List.getD, hi'] using this
theorem call_all (hc : X.calm = true) : CallR X (.builtin "all") (fun xs H Q => ∃ (p : Addr) (bs : List Bool), xs = [.ref p] /\ SqL X.K H p (bs.map V.bl) /\ Q (.bl (bs.all id)) H) := by
  intro pins s σ H xs us Q I r h
  obtain ⟨p, bs, rfl, hp, q⟩ := h
  obtain ⟨u, rfl, ru⟩ := Vals.one r
  cases (show u = Value.ref p from ru)
  obtain ⟨its, r1, t1, _⟩ := I.list hp
  have hh : X.A.in1.handled = none := I.ok.hd hc
  have hlt : p < s.heap.objs.size := by obtain ⟨_, e, _⟩ := t1.isList; exact Heap.lt_size e
  refine call_all_walk (wpAny_pyIter_list t1.isList ⟨_, _, _, _, _, _, fun i => bs.getD i false, rfl, Walks.list hh _ p (Nat.ne_of_lt hlt) its.toArray, ⟨⟨_, Heap.get?_push_size _ rfl, rfl, rfl⟩, t1.isList.push _⟩, ?_, ?_⟩)
  · intro i v s' Q' E' e hq
    rw [bools_at r1 e]
    exact wpAny_truthy_bool hq
  · intro h' tk hk
    have hl : its.toArray.size = bs.length := by have := r1.length; simp at this ⊢; lia
    rw [hl, range_all_get]
    exact ⟨.bl _, H, I.kept (kept_iter hk), rfl, q⟩
end
section
variable {X : Cx} {pins : List (Addr × Obj)} {σ : St} {H : Hp} {s : Shared}
theorem Inv.turnM {ch : List Addr} {t' : Nat} {h' : Heap} (I : Inv X pins σ H s) (hf : ∀ b ∈ ch, FpOk X pins H b) (k : ∀ b u, b ∉ ch -> s.heap.get? b = some u -> h'.get? b = some u) : Inv X pins σ H { s with heap := h', toks := t' } := by
  have nch : ∀ b u, H b = some u -> b ∉ ch := fun b u e z => by have := (hf b z).1; rw [this] at e; cases e
  refine I.step (g' := s.gens) (d' := s.drawn) (ch := ch) (fun b hb => ⟨(hf b hb).2.2.2.1, (hf b hb).2.1, (hf b hb).2.2.2.2.1, (hf b hb).2.2.2.2.2⟩) (fun b o _ _ hc e _ => k b o hc e) (fun b o _ _ hc e _ => ⟨o.slots, k b o hc e⟩) (fun _ _ _ _ n => n)
    (fun b o hc e => ⟨o, k b o hc e⟩) (fun _ _ e => e) (fun _ _ _ e => e) (fun b ps e => ⟨#[], by rw [e]; simp⟩) (fun m hm => ?_) (fun b u e => ?_) I.bare
  · obtain ⟨o, es, ep, ho, r⟩ := hm
    exact ⟨o, es, ep, k _ o (fun z => (hf _ z).2.1 rfl) ho, r⟩
  · refine (I.hok b u e).stay (fun c v hc q => k c v ?_ q) (fun _ q => q) fun _ _ q => q
    rcases hc with z | z
    · rw [z]; exact nch b u e
    · exact nch c _ z
theorem Inv.turnNew {ch : List Addr} {T : Addr} {o : HO} {t' : Nat} {h' : Heap} (I : Inv X pins σ H s) (hf : ∀ b ∈ ch, FpOk X pins H b) (k : ∀ b u, b ∉ ch -> s.heap.get? b = some u -> h'.get? b = some u) (hT : s.heap.objs.size <= T)
    (new : ObjOk X.prog X.w (upd H T o) h' T o) : Inv X pins σ (upd H T o) { s with heap := h', toks := t' } := by
  have nch : ∀ b u, H b = some u -> b ∉ ch := fun b u e z => by have := (hf b z).1; rw [this] at e; cases e
  have nT : H T = none := I.hok.fresh hT
  have neT : ∀ b u, s.heap.get? b = some u -> b ≠ T := fun b u e => Nat.ne_of_lt (Nat.lt_of_lt_of_le (Heap.lt_size e) hT)
  refine I.step (g' := s.gens) (d' := s.drawn) (ch := ch) (fun b hb => ⟨(hf b hb).2.2.2.1, (hf b hb).2.1, (hf b hb).2.2.2.2.1, (hf b hb).2.2.2.2.2⟩) (fun b o _ _ hc e _ => k b o hc e) (fun b o _ _ hc e _ => ⟨o.slots, k b o hc e⟩) (fun b u _ e n => by rw [upd_ne (neT b u e)]; exact n)
    (fun b o hc e => ⟨o, k b o hc e⟩) (fun b xs e => by rw [upd_ne (ne_of_none e nT)]; exact e) (fun b o u e => by rw [upd_ne (ne_of_none e nT)]; exact e) (fun b ps e => ⟨#[], by rw [upd_ne (ne_of_none e nT), e]; simp⟩) (fun m hm => ?_) (fun b u e => ?_) I.bare
  · obtain ⟨o, es, ep, ho, r⟩ := hm
    exact ⟨o, es, ep, k _ o (fun z => (hf _ z).2.1 rfl) ho, r⟩
  · by_cases hb : b = T
    · subst hb
      rw [upd_same] at e
      cases e
      exact new
    · rw [upd_ne hb] at e
      refine (I.hok b u e).stay (fun c v hc q => k c v ?_ q) (fun c r => by rw [upd_ne (ne_of_none r nT)]; exact r) fun c xs r => by rw [upd_ne (ne_of_none r nT)]; exact r
      rcases hc with z | z
      · rw [z]; exact nch b u e
      · exact nch c _ z
end
inductive Kd | l | t
def ItAt (k : Kd) (h : Heap) (it a : Addr) (i : Nat) : Prop := match k with | .l => h.IsListIter it a i | .t => h.IsTupleIter it a i
def SqK (k : Kd) (K : PySem.W.Frag) (H : Hp) (a : Addr) (xs : List V) : Prop := match k with | .l => SqL K H a xs | .t => SqT K H a xs
def SeqIs (k : Kd) (h : Heap) (a : Addr) (its : List Value) : Prop := match k with | .l => h.IsList a its.toArray | .t => h.IsTuple a its.toArray
theorem Inv.seq {X : Cx} {pins : List (Addr × Obj)} {σ : St} {H : Hp} {s : Shared} (I : Inv X pins σ H s) {k : Kd} {a : Addr} {xs : List V} (h : SqK k X.K H a xs) : ∃ its : List Value, Vals xs its /\ SeqIs k s.heap a its /\ xs.length <= sizeLine := by
  cases k with
  | l => obtain ⟨its, r, t, z⟩ := I.list h; exact ⟨its, r, t.isList, z⟩
  | t => obtain ⟨its, r, t, z⟩ := I.tuple h; exact ⟨its, r, t, z⟩
theorem ItAt.kept {k : Kd} {h h' : Heap} {it a : Addr} {i : Nat} (q : ItAt k h it a i) (e : ∀ o, h.get? it = some o -> h'.get? it = some o) : ItAt k h' it a i := by
  cases k with
  | l => obtain ⟨o, ho, r⟩ := (show h.IsListIter it a i from q); exact ⟨o, e _ ho, r⟩
  | t => obtain ⟨o, ho, r⟩ := (show h.IsTupleIter it a i from q); exact ⟨o, e _ ho, r⟩
theorem ItAt.obj {k : Kd} {h : Heap} {it a : Addr} {i : Nat} (q : ItAt k h it a i) : ∃ o, h.get? it = some o /\ ∀ v, o.data ≠ .cell v := by
  cases k with
  | l => obtain ⟨o, ho, _, d⟩ := (show h.IsListIter it a i from q); exact ⟨o, ho, fun v z => by rw [d] at z; cases z⟩
  | t => obtain ⟨o, ho, _, d⟩ := (show h.IsTupleIter it a i from q); exact ⟨o, ho, fun v z => by rw [d] at z; cases z⟩
section
variable {prog : Program} {w : World} {A : Around} {E : Value -> Shared -> Prop} {s : Shared}
theorem next_tup {it t : Addr} {i : Nat} {its : List Value} {x : Value} {Q : Value -> Shared -> Prop} (hi : s.heap.IsTupleIter it t i) (ht : s.heap.IsTuple t its.toArray) (hx : its[i]? = some x)
    (q : ∀ h', h'.IsTupleIter it t (i + 1) -> Heap.SameBut it s.heap h' -> Q x { s with heap := h' }) : wpAny (model prog w) A (Builtin.SmallTypes.nextOf (.ref it)) Q E s := by
  obtain ⟨oi, gi, ci, di⟩ := id hi
  obtain ⟨ot, gt, _, nt, dt⟩ := ht
  have hx' : its.toArray[i]? = some x := by simpa using hx
  unfold Builtin.SmallTypes.nextOf
  refine wpAny_bind (wpAny_callSpecial?_slot (name := Str.ofString "__next__") hi.typeIs F.slot_tuple_iterator_next (wpAny_call_entry F.slot_tuple_iterator_next hi.typeIs F.entry_tuple_iterator_next ?_ (F.args_tuple_iterator_next_1 _)))
  show wpAny _ _ (field (Value.ref it) 0 >>= _) _ _ s
  refine wpAny_bind (wpAny_field gi di (x := Value.ref t) rfl ?_)
  rw [if_neg (show ¬ ((Value.ref t == Value.none) = true) by intro z; cases z)]
  refine wpAny_bind (wpAny_field gi di (x := Value.int i 0) rfl ?_)
  refine wpAny_bind (wpAny_seqItems gt dt ?_)
  simp only [Int.toNat_natCast, hx']
  refine wpAny_bind (wpAny_setField gi di (by simp) (wpAny_pure ⟨x, rfl, wpAny_pure (q _ ?_ (Heap.SameBut.update ..))⟩))
  refine ⟨_, Heap.get?_update_self _ gi (Obj.isFreed_of_fields (Obj.data_mapFields di _)), (Obj.cls_mapFields ..).trans ci, ?_⟩
  rw [Obj.data_mapFields di]
  simp [rawInt]
theorem end_tup {it t : Addr} {i : Nat} {its : List Value} {Q : Value -> Shared -> Prop} (hh : A.handled = none) (hi : s.heap.IsTupleIter it t i) (ht : s.heap.IsTuple t its.toArray) (hx : its.length <= i)
    (q : ∀ h' e, Heap.ExtBut it s.heap h' -> (∃ o, h'.get? e = some o /\ o.cls = .type "StopIteration") -> E (.ref e) { s with heap := h' }) : wpAny (model prog w) A (Builtin.SmallTypes.nextOf (.ref it)) Q E s := by
  obtain ⟨oi, gi, ci, di⟩ := id hi
  obtain ⟨ot, gt, _, nt, dt⟩ := ht
  have hx' : its.toArray[i]? = none := by simpa using hx
  unfold Builtin.SmallTypes.nextOf
  refine wpAny_bind (wpAny_callSpecial?_slot (name := Str.ofString "__next__") hi.typeIs F.slot_tuple_iterator_next (wpAny_call_entry F.slot_tuple_iterator_next hi.typeIs F.entry_tuple_iterator_next ?_ (F.args_tuple_iterator_next_1 _)))
  show wpAny _ _ (field (Value.ref it) 0 >>= _) _ _ s
  refine wpAny_bind (wpAny_field gi di (x := Value.ref t) rfl ?_)
  rw [if_neg (show ¬ ((Value.ref t == Value.none) = true) by intro z; cases z)]
  refine wpAny_bind (wpAny_field gi di (x := Value.int i 0) rfl ?_)
  refine wpAny_bind (wpAny_seqItems gt dt ?_)
  simp only [Int.toNat_natCast, hx']
  refine wpAny_bind (wpAny_rule (wpAny_bind (wpAny_setField gi di (by simp) (wpAny_bind ?_))))
  simp only [newExc, newTuple]
  refine wpAny_bind (wpAny_newObj_type (wpAny_bind (m := firstArgMember _ _) (wpAny_of_eq (a := Value.none) ?_ (wpAny_newObj_type ?_ (by size_fits)))) (by size_fits))
  · first | rfl | (simp only [firstArgMember]; rfl)
  simp only [raiseNew]
  refine wpAny_bind (wpAny_handled ?_)
  first | rw [show A.in1.handled = none from hh] | rw [hh]
  exact wpAny_bind (wpAny_pure (wpAny_throw (q _ _ (((Heap.SameBut.update ..).extBut.push _).push _) ⟨_, Heap.get?_push_size _ rfl, rfl⟩)))
theorem next_seq {k : Kd} {it a : Addr} {i : Nat} {its : List Value} {x : Value} {Q : Value -> Shared -> Prop} (hi : ItAt k s.heap it a i) (hs : SeqIs k s.heap a its) (hx : its[i]? = some x)
    (q : ∀ h', ItAt k h' it a (i + 1) -> Heap.SameBut it s.heap h' -> Q x { s with heap := h' }) : wpAny (model prog w) A (Builtin.SmallTypes.nextOf (.ref it)) Q E s := by
  cases k with
  | l => exact wpAny_nextOf_list_item hi hs (by simpa using hx) q
  | t => exact next_tup hi hs hx q
theorem end_seq {k : Kd} {it a : Addr} {i : Nat} {its : List Value} {Q : Value -> Shared -> Prop} (hh : A.handled = none) (hi : ItAt k s.heap it a i) (hs : SeqIs k s.heap a its) (hx : its.length <= i)
    (q : ∀ h' e, Heap.ExtBut it s.heap h' -> (∃ o, h'.get? e = some o /\ o.cls = .type "StopIteration") -> E (.ref e) { s with heap := h' }) : wpAny (model prog w) A (Builtin.SmallTypes.nextOf (.ref it)) Q E s := by
  cases k with
  | l => exact wpAny_nextOf_list_end hh hi hs (by simpa using hx) q
  | t => exact end_tup hh hi hs hx q
end
open AutoSeq1 (wpAny_loadPart')
section
variable {prog : Program} {w : World} {A : Around} {E : Value -> Shared -> Prop} {s : Shared}
theorem enum_step {k : Kd} {e it a : Addr} {i : Nat} {its : List Value} {x old : Value} {Q : Value -> Shared -> Prop} (he : IsEnum s.heap e it i old) (hi : ItAt k s.heap it a i) (hs : SeqIs k s.heap a its) (hx : its[i]? = some x) (ne : e ≠ it)
    (q : ∀ h', IsEnumOut h' e it ((i : Int) + 1) x s.heap.objs.size -> ItAt k h' it a (i + 1) -> h'.get? s.heap.objs.size = some { cls := .type "tuple", data := .seq #[.int i s.toks, x] } ->
      (∀ b o, b ≠ e -> b ≠ it -> s.heap.get? b = some o -> h'.get? b = some o) -> Q (.ref s.heap.objs.size) { s with heap := h', toks := s.toks + 1 }) :
    wpAny (model prog w) A (Builtin.«enumerate.__next__» ⟨[.ref e], []⟩) (fun fin s' => ∃ v, fin = .done (.ret v) /\ Q v s') E s := by
  obtain ⟨hp, g, d, tk, os⟩ := s
  show wpAny _ _ (field (Value.ref e) 2 >>= _) _ _ _
  refine wpAny_bind (wpAny_field he rfl (x := Value.ref it) rfl (wpAny_bind (next_seq hi hs hx fun g1 i1 b1 => ?_)))
  replace b1 : Heap.SameBut it hp g1 := b1
  have e1 : IsEnum g1 e it i old := (b1.2 e ne).trans he
  refine wpAny_bind (wpAny_field (s := ⟨g1, g, d, tk, os⟩) e1 rfl (x := rawInt i) rfl (wpAny_bind (wpAny_field (s := ⟨g1, g, d, tk, os⟩) e1 rfl (x := Value.none) rfl ?_)))
  refine wpAny_bind (wpAny_mkInt (wpAny_bind (wpAny_setField_rec (s := ⟨g1, g, d, tk + 1, os⟩) e1 (by simp) fun g2 e2 b2 => ?_)))
  replace b2 : Heap.SameBut e g1 g2 := b2
  replace e2 : IsEnum g2 e it ((i : Int) + 1) old := e2
  refine wpAny_bind (wpAny_setField_rec (s := ⟨g2, g, d, tk + 1, os⟩) e2 (by simp) fun g3 e3 b3 => ?_)
  replace b3 : Heap.SameBut e g2 g3 := b3
  replace e3 : IsEnum g3 e it ((i : Int) + 1) old := e3
  refine wpAny_bind (wpAny_newTuple ?_)
  have hz : g3.objs.size = hp.objs.size := by rw [b3.1, b2.1, b1.1]
  have el : e < hp.objs.size := Heap.lt_size he
  obtain ⟨oi, gi, _⟩ := hi.obj
  have il : it < hp.objs.size := Heap.lt_size gi
  have e4 : IsEnum (g3.push { cls := .type "tuple", data := .seq #[.int i tk, x] }) e it ((i : Int) + 1) old := Heap.get?_push_of_some _ e3
  have t4 : (g3.push { cls := .type "tuple", data := .seq #[.int i tk, x] }).get? hp.objs.size = some { cls := .type "tuple", data := .seq #[.int i tk, x] } := by rw [<- hz]; exact Heap.get?_push_size _ rfl
  have k4 : ∀ b o, b ≠ e -> b ≠ it -> hp.get? b = some o -> (g3.push { cls := .type "tuple", data := .seq #[.int i tk, x] }).get? b = some o := fun b o h1 h2 h3 =>
    Heap.get?_push_of_some _ (b3.extBut b o h1 (b2.extBut b o h1 (b1.extBut b o h2 h3)))
  have i4 : ItAt k (g3.push { cls := .type "tuple", data := .seq #[.int i tk, x] }) it a (i + 1) := i1.kept fun o h => Heap.get?_push_of_some _ (b3.extBut it o ne.symm (b2.extBut it o ne.symm h))
  show wpAny _ _ (Builtin.SmallTypes.ownedTupleIsFree (Value.ref e) >>= _) _ _ ⟨g3.push { cls := .type "tuple", data := .seq #[.int i tk, x] }, g, d, tk + 1, os⟩
  rw [hz]
  generalize g3.push { cls := .type "tuple", data := .seq #[.int i tk, x] } = g4 at e4 t4 k4 i4
  refine wpAny_bind ?_
  unfold Builtin.SmallTypes.ownedTupleIsFree
  refine wpAny_bind (wpAny_field e4 rfl (x := Value.none) rfl (wpAny_pure ?_))
  simp only [if_true]
  refine wpAny_bind (wpAny_rule (wpAny_bind (wpAny_field e4 rfl (x := old) rfl (wpAny_bind (wpAny_setField_rec e4 (by simp) fun g5 e5 b5 => ?_)))))
  replace b5 : Heap.SameBut e g4 g5 := b5
  replace e5 : IsEnum g5 e it ((i : Int) + 1) x := e5
  refine wpAny_bind ?_
  unfold Builtin.SmallTypes.ownedTupleHandOut
  refine wpAny_bind (wpAny_setField_rec e5 (by simp) fun g6 e6 b6 => ?_)
  replace b6 : Heap.SameBut e g5 g6 := b6
  replace e6 : IsEnumOut g6 e it ((i : Int) + 1) x hp.objs.size := e6
  refine wpAny_setField_rec e6 (by simp) fun g7 e7 b7 => ?_
  replace b7 : Heap.SameBut e g6 g7 := b7
  replace e7 : IsEnumOut g7 e it ((i : Int) + 1) x hp.objs.size := e7
  have up : ∀ b o, b ≠ e -> g4.get? b = some o -> g7.get? b = some o := fun b o h1 h2 => b7.extBut b o h1 (b6.extBut b o h1 (b5.extBut b o h1 h2))
  exact wpAny_bind (wpAny_letGo (wpAny_pure ⟨_, rfl, q g7 e7 (i4.kept fun o h => up it o ne.symm h) (up _ _ (Nat.ne_of_gt el) t4) fun b o h1 h2 h3 => up b o h1 (k4 b o h1 h2 h3)⟩))
theorem enum_item {k : Kd} {e it a : Addr} {i : Nat} {its : List Value} {x old : Value} {Q : Option Value -> Shared -> Prop} (he : IsEnum s.heap e it i old) (hi : ItAt k s.heap it a i) (hs : SeqIs k s.heap a its) (hx : its[i]? = some x) (ne : e ≠ it)
    (q : ∀ h', IsEnumOut h' e it ((i : Int) + 1) x s.heap.objs.size -> ItAt k h' it a (i + 1) -> h'.get? s.heap.objs.size = some { cls := .type "tuple", data := .seq #[.int i s.toks, x] } ->
      (∀ b o, b ≠ e -> b ≠ it -> s.heap.get? b = some o -> h'.get? b = some o) -> Q (some (.ref s.heap.objs.size)) { s with heap := h', toks := s.toks + 1 }) :
    wpAny (model prog w) A (pyNext (.ref e)) Q E s := by
  have ty : s.TypeIs (.ref e) "enumerate" := ⟨_, he, rfl⟩
  unfold pyNext
  exact wpAny_bind (wpAny_attempt (wpAny_callSpecial?_slot (name := Str.ofString "__next__") ty F.slot_enumerate_next (wpAny_call_entry F.slot_enumerate_next ty F.entry_enumerate_next
      (enum_step he hi hs hx ne fun h' a b c d => wpAny_pure (q h' a b c d)) (F.args_enumerate_next_1 _))))
theorem enum_done {k : Kd} {e it a : Addr} {i : Nat} {its : List Value} {old : Value} {Q : Option Value -> Shared -> Prop} (hh : A.handled = none) (he : IsEnum s.heap e it i old) (hi : ItAt k s.heap it a i) (hs : SeqIs k s.heap a its) (hx : its.length <= i)
    (q : ∀ h', Heap.ExtBut it s.heap h' -> Q none { s with heap := h' }) : wpAny (model prog w) A (pyNext (.ref e)) Q E s := by
  have ty : s.TypeIs (.ref e) "enumerate" := ⟨_, he, rfl⟩
  unfold pyNext
  refine wpAny_bind (wpAny_attempt (wpAny_callSpecial?_slot (name := Str.ofString "__next__") ty F.slot_enumerate_next (wpAny_call_entry F.slot_enumerate_next ty F.entry_enumerate_next ?_ (F.args_enumerate_next_1 _))))
  show wpAny _ _ (field (Value.ref e) 2 >>= _) _ _ _
  refine wpAny_bind (wpAny_field he rfl (x := Value.ref it) rfl (wpAny_bind (end_seq hh hi hs hx fun h' z k1 k2 => ?_)))
  obtain ⟨o, ho, hc⟩ := k2
  exact wpAny_bind (wpAny_isInstance (T := "StopIteration") (b := true) ⟨o, ho, hc⟩ isSubtype_stop (wpAny_pure (q _ k1)))
theorem enum_new_tup (t : Addr) (items : Array Value) (n : Nat) (dct : Option Addr) (sl : Array (Option Value)) :
    Meets (Builtin.«enumerate.__new__» ⟨[.type "enumerate", .ref t], []⟩) (fun _ R s => s.heap.get? t = some { cls := .type "tuple", dict := dct, data := .seq items n, slots := sl } /\
      R (.ok (.ret (.ref (s.heap.push { cls := .type "tuple_iterator", data := .fields #[.ref t, .int 0 0] }).objs.size)))
        { s with heap := (s.heap.push { cls := .type "tuple_iterator", data := .fields #[.ref t, .int 0 0] }).push { cls := .type "enumerate", data := .fields #[.none, .bool false, .ref s.heap.objs.size, rawInt 0, .none, .none] } }) :=
  .of_wp fun prog w A R s h => by
    obtain ⟨hp, g, d, tk, os⟩ := s
    obtain ⟨ht, h⟩ := h
    have hsub := sub_enumerate
    have hT : Heap.IsTuple (Shared.heap ⟨hp, g, d, tk, os⟩) t items := ⟨_, ht, rfl, n, rfl⟩
    wp_walk using wpAny_loadPart' ht
    refine wpAny_stack_any fun st => wpAny_pure ?_
    split
    · rename_i c _ _ _ _ _
      cases (c == Value.type "enumerate") <;>
      · wp_walk using wpAny_loadPart' ht, wpAny_pyIter_tuple hT
        exact ⟨_, rfl, h⟩
    · wp_walk using wpAny_loadPart' ht, wpAny_pyIter_tuple hT
      exact ⟨_, rfl, h⟩
theorem call_enum {k : Kd} {a : Addr} {its : List Value} {Q : Value -> Shared -> Prop} (hs : SeqIs k s.heap a its)
    (q : ∀ h', IsEnum h' (s.heap.objs.size + 1) s.heap.objs.size 0 .none -> ItAt k h' s.heap.objs.size a 0 -> (∀ b o, s.heap.get? b = some o -> h'.get? b = some o) -> Q (.ref (s.heap.objs.size + 1)) { s with heap := h' }) :
    wpAny (model prog w) A (call (.type "enumerate") [.ref a]) Q E s := by
  cases k with
  | l => exact call_enumerate_list hs fun h' a b _ d => q h' a b d
  | t =>
    obtain ⟨⟨c, dct, dt, sl⟩, ht, hc, n, hd⟩ := (show s.heap.IsTuple a its.toArray from hs)
    replace hc : c = .type "tuple" := hc
    replace hd : dt = .seq its.toArray n := hd
    subst hc hd
    refine callType_new F.called_enumerate (by decide) (F.typeCall_enumerate_1 _) (F.newCall_enumerate_1 _) (fun obj => F.args_object_init_2 obj _) F.entry_enumerate_new (enum_new_tup a its.toArray n dct sl) ⟨ht, ?_⟩
    have z : (s.heap.push { cls := .type "tuple_iterator", data := .fields #[.ref a, .int 0 0] }).objs.size = s.heap.objs.size + 1 := Heap.size_push ..
    show _ /\ _
    have e1 := Heap.get?_push_size (s.heap.push { cls := .type "tuple_iterator", data := .fields #[.ref a, .int 0 0] }) (o := { cls := .type "enumerate", data := .fields #[.none, .bool false, .ref s.heap.objs.size, rawInt 0, .none, .none] }) rfl
    rw [z] at e1 ⊢
    exact ⟨⟨_, e1, rfl⟩, q _ e1 ⟨_, Heap.get?_push_of_some _ (Heap.get?_push_size _ rfl), rfl, rfl⟩ fun b o x => Heap.get?_push_of_some _ (Heap.get?_push_of_some _ x)⟩
end
def ItE (k : Kd) (K : PySem.W.Frag) (a : Addr) : It :=
  ⟨fun i H => ∃ xs x, SqK k K H a xs /\ xs[i]? = some x, fun i H x H' => ∃ p y, H p = none /\ x = .ref p /\ (∀ xs, SqK k K H a xs -> xs[i]? = some y) /\ H' = upd H p (.tup [.int i, y]), fun i H => ∃ xs, SqK k K H a xs /\ xs.length <= i⟩
theorem Inv.seq_inj {X : Cx} {pins : List (Addr × Obj)} {σ : St} {H : Hp} {s : Shared} (I : Inv X pins σ H s) {k : Kd} {a : Addr} {xs ys : List V} (h : SqK k X.K H a xs) (h' : SqK k X.K H a ys) : xs = ys := by
  cases k with
  | l => exact I.list_inj h h'
  | t => exact I.tuple_inj h h'
theorem turn_enum {P : Program} {w : World} {K : PySem.W.Frag} {elts : List Expr} {x1 : Nat} {tpos : Pos} (k : Kd) (a e it : Addr) (ne : e ≠ it) : Turn P w K (.Tuple elts x1 tpos) (ItE k K a) [e, it] e (fun i h => (∃ old, IsEnum h e it i old) /\ ItAt k h it a i) where
  mem := by simp
  obj := fun i h st b hb => by
    obtain ⟨⟨old, q⟩, r⟩ := st
    rcases List.mem_cons.mp hb with rfl | hb
    · exact ⟨_, q, fun v z => by cases z⟩
    · rw [List.mem_singleton.mp hb]; exact r.obj
  keep := fun i h h' st kk => ⟨let ⟨old, q⟩ := st.1; ⟨old, kk e (by simp) _ q⟩, st.2.kept fun o x => kk it (by simp) o x⟩
  item := by
    intro X hP hw hK hc i pins s σ H E I hf st hg
    subst hP hw hK
    obtain ⟨⟨old, he⟩, hi⟩ := st
    obtain ⟨xs, x, hq, hx⟩ := hg
    obtain ⟨its, r, hs, hz⟩ := I.seq hq
    obtain ⟨u, e1, ru⟩ := r.get hx
    refine enum_item he hi hs e1 ne fun h' a1 a2 a3 a4 => ⟨_, rfl, ?_⟩
    refine wpAny_letOwnedTupleGo_enum (s := { s with heap := h', toks := s.toks + 1 }) a1 fun h2 b1 b2 => ?_
    replace b2 : Heap.SameBut e h' h2 := b2
    have el : e < s.heap.objs.size := Heap.lt_size he
    have kk : ∀ b o, b ∉ [e, it] -> s.heap.get? b = some o -> h2.get? b = some o := fun b o hb q => by
      simp at hb
      exact b2.extBut b o hb.1 (a4 b o hb.1 hb.2 q)
    have tt : h2.get? s.heap.objs.size = some { cls := .type "tuple", data := .seq #[.int i s.toks, u] } := b2.extBut _ _ (Nat.ne_of_gt el) a3
    have fr : H s.heap.objs.size = none := I.hok.fresh (Nat.le_refl _)
    refine ⟨.ref s.heap.objs.size, upd H s.heap.objs.size (.tup [.int i, x]), I.turnNew hf kk (Nat.le_refl _) ?_, rfl, ⟨_, x, fr, rfl, fun ys hy => ?_, rfl⟩, ⟨⟨u, ?_⟩, a2.kept fun o q => b2.extBut it o ne.symm q⟩, fun b hb => ?_⟩
    · exact ⟨by show 2 <= sizeLine; decide, [.int i s.toks, u], .cons ⟨_, rfl⟩ (.cons ru .nil), ⟨_, tt, rfl, 0, rfl⟩⟩
    · rw [I.seq_inj hy hq]; exact hx
    · have : ((i + 1 : Nat) : Int) = (i : Int) + 1 := by push_cast; rfl
      rw [this]; exact b1
    · rw [upd_ne]
      · exact (hf b hb).1
      · rcases List.mem_cons.mp hb with rfl | hb
        · exact Nat.ne_of_lt el
        · rw [List.mem_singleton.mp hb]
          obtain ⟨o, q, _⟩ := hi.obj
          exact Nat.ne_of_lt (Heap.lt_size q)
  done := by
    intro X hP hw hK hc i pins s σ H E I hf st hg
    subst hP hw hK
    obtain ⟨⟨old, he⟩, hi⟩ := st
    obtain ⟨xs, hq, hx⟩ := hg
    obtain ⟨its, r, hs, hz⟩ := I.seq hq
    refine enum_done (I.ok.hd hc) he hi hs (by rw [<- r.length]; exact hx) fun h' q => ⟨rfl, I.turnM (t' := s.toks) hf fun b o hb z => q b o (fun y => hb (by simp [y])) z⟩
  self := fun _ _ _ _ _ st h => let ⟨⟨_, he⟩, _⟩ := st; wpAny_pyIter_enum he h
def iEnum (k : Kd) (K : PySem.W.Frag) (ta : TA) : TI := fun σ H R => ta σ H fun vs H1 => ∃ a xs, vs = [.ref a] /\ SqK k K H1 a xs /\ R (ItE k K a) H1
theorem boot_enumerate' : bootBuiltins "enumerate" = some (.type "enumerate") := by first | rfl | decide +kernel
theorem pi_enum {X : Cx} {elts : List Expr} {x1 : Nat} {tpos : Pos} {l : Expr} {ta : TA} {p pos : Pos} (k : Kd) (hg : Gl X "enumerate") (hm : X.mg "enumerate" = none) (ha : PA X [l] ta) (hs : starEach [l] X.env = [(false, eval l X.env)] := by rfl) :
    PI X (.Tuple elts x1 tpos) (.Call (.Name "enumerate" p) [l] [] pos) (iEnum k X.K ta) := by
  intro pins s σ H R I h
  refine Call_ (ld_blt I hg hm boot_enumerate' (PyProof.Rows.callWith_type1 (thn (ha pos pins s σ H _ I h) fun us s1 ⟨vs, H1, I1, r1, q1⟩ => ?_) hs rfl))
  obtain ⟨a, xs, rfl, hq, q⟩ := q1
  obtain ⟨u, rfl, ru⟩ := Vals.one r1
  cases (show u = Value.ref a from ru)
  obtain ⟨its, r, hsq, hz⟩ := I1.seq hq
  refine call_enum hsq fun h' a1 a2 a3 => wpAny_pyIter_enum (s := { s1 with heap := h' }) a1 ?_
  refine ⟨s1.heap.objs.size + 1, [s1.heap.objs.size + 1, s1.heap.objs.size], _, _, H1, rfl, I1.kept (t' := s1.toks) a3, turn_enum k a _ _ (Nat.succ_ne_self _), ⟨⟨_, a1⟩, a2⟩, fun b hb => ?_, q⟩
  rcases List.mem_cons.mp hb with rfl | hb
  · exact I1.fpOk (Nat.le_succ _) (I1.hok.fresh (Nat.le_succ _))
  · rw [List.mem_singleton.mp hb]; exact I1.fpOk (Nat.le_refl _) (I1.hok.fresh (Nat.le_refl _))
open AutoSeq1 (wpAny_loadPart')
section
variable {prog : Program} {w : World} {A : Around} {E : Value -> Shared -> Prop} {s : Shared}
end
def Itc (lo c : Int) (n : Nat) : It := ⟨fun i _ => i < n, fun i H x H' => H' = H /\ x = .int (lo + i * c), fun i _ => n <= i⟩
theorem turn_rangeC {P : Program} {w : World} {K : PySem.W.Frag} {tg : Expr} (it : Addr) (lo c : Int) (n : Nat) : Turn P w K tg (Itc lo c n) [it] it (fun i h => IsRangeIter h it (lo + (i : Nat) * c) ((n : Int) - (i : Nat)) c) where
  mem := by simp
  obj := fun i h st b hb => by
    rw [List.mem_singleton.mp hb]
    exact ⟨_, st, fun v z => by cases z⟩
  keep := fun i h h' st k => k it (by simp) _ st
  item := by
    intro X hP hw hK hc i pins s σ H E I hf st hg
    subst hP hw hK
    have W := Walks.range (prog := X.prog) (w := X.w) (I.ok.hd hc) it lo c n
    refine W.item i s _ _ hg st fun v h' tk hv st' kk => ?_
    obtain ⟨t, rfl⟩ := hv
    have I1 : Inv X pins σ H { s with heap := h', toks := tk } := I.turnM hf kk
    exact ⟨_, rfl, go_of (s := { s with heap := h', toks := tk }) (n := "range_iterator") st' rfl rfl (by decide) ⟨.int _, H, I1, ⟨t, rfl⟩, ⟨rfl, rfl⟩, st', fun b hb => (hf b hb).1⟩⟩
  done := by
    intro X hP hw hK hc i pins s σ H E I hf st hg
    subst hP hw hK
    exact wpAny_pyNext_range_end (I.ok.hd hc) st (by have : n <= i := hg; omega) fun h' eb => ⟨rfl, I.turnM (t' := s.toks) hf fun b o hb e => eb b o (by simpa using hb) e⟩
  self := fun _ _ _ _ _ st h => wpAny_pyIter_rangeiter st h
def iRng3 (ta : TA) : TI := fun σ H R => ta σ H fun vs H1 => ∃ a b c : Int, vs = [.int a, .int b, .int c] /\ c ≠ 0 /\ c.natAbs < 1073741824 /\ Builtin.Range.small a b c = true /\ R (Itc a c (Builtin.Range.rangeSize a b c).toNat) H1
theorem rangeSize_nn {a b c : Int} (h : c ≠ 0) : 0 <= Builtin.Range.rangeSize a b c := by
  unfold Builtin.Range.rangeSize
  split
  · split
    · have := Int.ediv_nonneg (show 0 <= b - a - 1 by omega) (show 0 <= c by omega); omega
    · omega
  · split
    · have := Int.ediv_nonneg (show 0 <= a - b - 1 by omega) (show 0 <= -c by omega); omega
    · omega
theorem pi_range3 {X : Cx} {tg : Expr} {a b c : Expr} {ta : TA} {p pos : Pos} (hg : Gl X "range") (hm : X.mg "range" = none) (ha : PA X [a, b, c] ta)
    (hs : starEach [a, b, c] X.env = (false, eval a X.env) :: starEach [b, c] X.env := by rfl) (hpl : (backTo pos (starEach [b, c] X.env)).any (·.1) = false := by rfl) :
    PI X tg (.Call (.Name "range" p) [a, b, c] [] pos) (iRng3 ta) := by
  intro pins s σ H R I h
  refine Call_ (ld_blt I hg hm boot_range (PyProof.Rows.callWith_type1 (thn (ha pos pins s σ H _ I h) fun us s1 ⟨vs, H1, I1, r1, q1⟩ => ?_) hs hpl))
  obtain ⟨i, j, k, rfl, hk, hk2, hsm, q⟩ := q1
  cases r1 with
  | cons r rr =>
    obtain ⟨u2, u3, rfl, r2, r3⟩ := Vals.two rr
    obtain ⟨t, rfl⟩ := r
    obtain ⟨t', rfl⟩ := r2
    obtain ⟨t'', rfl⟩ := r3
    refine call_range_3 hk ?_ (Or.inl (PyProof.noPylong_small hk2))
    have I2 : Inv X pins σ H1 { s1 with heap := s1.heap.push { cls := .type "range", data := .fields #[.int i t, .int j t', .int k t''] }, toks := s1.toks } := I1.kept fun b o e => Heap.get?_push_of_some _ e
    refine wpAny_pyIter_range (IsRange.new ..) hsm ?_
    refine ⟨_, [_], _, _, H1, rfl, I2.kept (t' := s1.toks) fun b o e => Heap.get?_push_of_some _ e, turn_rangeC _ i k (Builtin.Range.rangeSize i j k).toNat, ?_, fun b hb => ?_, q⟩
    · show IsRangeIter _ _ (i + ((0 : Nat) : Int) * k) (((Builtin.Range.rangeSize i j k).toNat : Int) - ((0 : Nat) : Int)) k
      have e1 : i + ((0 : Nat) : Int) * k = i := by simp
      have e2 : ((Builtin.Range.rangeSize i j k).toNat : Int) - ((0 : Nat) : Int) = Builtin.Range.rangeSize i j k := by have := rangeSize_nn (a := i) (b := j) hk; omega
      rw [e1, e2]
      exact Heap.get?_push_size _ rfl
    · rw [List.mem_singleton.mp hb]
      exact I2.fpOk (Nat.le_refl _) (I2.hok.fresh (Nat.le_refl _))
structure Src (K : PySem.W.Frag) (mg : Str -> Option Value) (x : Str) (st : Stmt) (ps : List Str) : Prop where
  ex : ∃ f fd, Fun K x x st f fd /\ Binds K fd ps [] /\ mg x = some (.ref f)
structure Def (P : Program) (w : World) (K : PySem.W.Frag) (mg : Str -> Option Value) (base : Heap) (k : Nat) (x : Str) (ps : List Str) (sp : Sp) : Prop where
  ex : ∃ f fd, FnOk P w K mg base CX0 k f fd ps sp /\ Binds K fd ps [] /\ mg x = some (.ref f) /\ PySem.W.keepIn K (.ref f) = true
theorem Src.def {P : Program} {w : World} {K : PySem.W.Frag} {mg : Str -> Option Value} {base : Heap} {k : Nat} {x : Str} {st : Stmt} {N ps : List Str} {sp : Sp} (S : Src K mg x st ps) (sc : FnScope N ps (defScope st)) (len : ∀ vs H Q E, sp vs H Q E -> vs.length = ps.length)
    (hbody : ∀ (f : Addr) (cdv : Value) (A : Around) (outer : List Env) (s : Shared) (H : Hp) (vs : List V) (Q : VK) (E : XK), Room k (A.deeper (envOfC x (defScope st) s.heap.objs.size f cdv)) -> sp vs H Q E ->
      ∃ t, PSs (cxOf CX0 P w K mg base N x (defScope st) f cdv A outer s H E).nox (defBody st) t /\ t { nx := fun _ H' => Q .non H', rt := Q } (start N vs) H) : Def P w K mg base (k + 1) x ps sp := by
  obtain ⟨f, fd, F, b, m⟩ := S.ex
  exact ⟨f, fd, F.ok sc len (hbody f), b, m, F.kp⟩
theorem pe_def {X : Cx} {k : Nat} {x : Str} {ps : List Str} {sp : Sp} {e : Expr} {es : List Expr} {t : TA} {p pos : Pos} (D : Def X.prog X.w X.K X.mg X.base k x ps sp) (hr : Room k X.A) (hg : Gl X x) (ha : PA X (e :: es) t)
    (hdb : (x == ("__debug__" : Str)) = false := by decide) (he : starEach (e :: es) X.env = (false, eval e X.env) :: starEach es X.env := by rfl) (hpl : (backTo pos (starEach es X.env)).any (·.1) = false := by rfl) :
    PE X (.Call (.Name x p) (e :: es) [] pos) (tCall sp [] E0 t) := by
  obtain ⟨f, fd, F, b, m, kp⟩ := D.ex
  exact pe_call F hr hg m kp b .nil pass0 ha hdb he hpl
theorem Same.tup {K : PySem.W.Frag} {H H' : Hp} {a : Addr} {xs : List V} (e : Same H H') (h : SqT K H a xs) : SqT K H' a xs := by
  rcases h with (h | ⟨o, h⟩) | h
  · exact .inl (.inl (e _ _ h))
  · exact .inl (.inr ⟨o, e _ _ h⟩)
  · exact .inr h
theorem Same.seqK {K : PySem.W.Frag} {H H' : Hp} {k : Kd} {a : Addr} {xs : List V} (e : Same H H') (h : SqK k K H a xs) : SqK k K H' a xs := by
  cases k with
  | l => exact e.seq h
  | t => exact e.tup h
theorem Same.new {H : Hp} {p : Addr} {o : HO} (h : H p = none) : Same H (upd H p o) := fun b u e => by rw [upd_ne (ne_of_none e h)]; exact e
theorem Paired.at {α β : Type} {F : α -> β -> Prop} : ∀ {l₁ : List α} {l₂ : List β}, Paired F l₁ l₂ -> ∀ {i : Nat} {a : α}, l₁[i]? = some a -> ∃ b, l₂[i]? = some b /\ F a b
  | _, _, .nil, i, a, e => by simp at e
  | _, _, .cons r t, 0, a, e => by simp at e; subst e; exact ⟨_, rfl, r⟩
  | _, _, .cons r t, i + 1, a, e => by
    obtain ⟨b, h1, h2⟩ := Paired.at t (i := i) (by simpa using e)
    exact ⟨b, by simpa using h1, h2⟩
theorem Paired.snoc {α β : Type} {F : α -> β -> Prop} : ∀ {l₁ : List α} {l₂ : List β}, Paired F l₁ l₂ -> ∀ {a : α} {b : β}, F a b -> Paired F (l₁ ++ [a]) (l₂ ++ [b])
  | _, _, .nil, _, _, h => .cons h .nil
  | _, _, .cons r t, _, _, h => .cons r (Paired.snoc t h)
theorem take_succ_of {α : Type} {l : List α} {i : Nat} {a : α} (h : l[i]? = some a) : l.take (i + 1) = l.take i ++ [a] := by
  rw [List.take_add_one, h]; rfl
def ItK (k : Kd) (K : PySem.W.Frag) (a : Addr) : It := match k with | .l => Itl K a | .t => Itt K a
def iSeq (k : Kd) (K : PySem.W.Frag) (tl : TE) : TI := fun σ H R => tl σ H fun x H1 => ∃ a, x = .ref a /\ (∃ xs, SqK k K H1 a xs) /\ R (ItK k K a) H1
theorem pi_seq {X : Cx} {tg : Expr} (k : Kd) {l : Expr} {tl : TE} (hl : PE X l tl) : PI X tg l (iSeq k X.K tl) := by
  cases k with
  | l => exact pi_list hl
  | t => exact pi_tup hl
theorem itk_go {k : Kd} {K : PySem.W.Frag} {H : Hp} {a : Addr} {xs : List V} {i : Nat} (h : SqK k K H a xs) (hi : i < xs.length) : (ItK k K a).go i H := by
  cases k with
  | l => exact ⟨xs, xs[i], h, by simp [hi]⟩
  | t => exact ⟨xs, xs[i], h, by simp [hi]⟩
theorem itk_stop {k : Kd} {K : PySem.W.Frag} {H : Hp} {a : Addr} {xs : List V} {i : Nat} (h : SqK k K H a xs) (hi : xs.length <= i) : (ItK k K a).stop i H := by
  cases k with
  | l => exact ⟨xs, h, hi⟩
  | t => exact ⟨xs, h, hi⟩
theorem itk_yld {k : Kd} {K : PySem.W.Frag} {H H' : Hp} {a : Addr} {xs : List V} {i : Nat} {x : V} (h : SqK k K H a xs) (y : (ItK k K a).yld i H x H') : H' = H /\ xs[i]? = some x := by
  cases k with
  | l => exact ⟨y.1, y.2 xs h⟩
  | t => exact ⟨y.1, y.2 xs h⟩
theorem comp_seq {k : Kd} {K : PySem.W.Frag} {a : Addr} {xs : List V} {g : TG} {tt : TT} {te : TE} {fin : List V -> Hp -> Prop} {σ : St} {H : Hp} (S : St -> Prop) (Pv : Nat -> List V -> Hp -> Prop) (hσ : S σ) (h0 : Pv 0 [] H) (hz : xs.length < sizeLine)
    (hl : ∀ i ys H, i <= xs.length -> Pv i ys H -> SqK k K H a xs)
    (hs : ∀ (i : Nat) (x : V) (ys : List V) (σ : St) (H : Hp) (N : List V -> St -> Hp -> Prop), xs[i]? = some x -> S σ -> Pv i ys H -> (∀ ys' σ' H', S σ' -> Pv (i + 1) ys' H' -> ys'.length <= ys.length + 1 -> N ys' σ' H') ->
      g x σ H fun σ2 H2 => tt σ2 H2 fun b H3 => if b = true then te σ2 H3 fun y H4 => N (ys ++ [y]) σ2 H4 else N ys σ2 H3)
    (hd : ∀ ys H, Pv xs.length ys H -> fin ys H) : ∃ W, CompW (ItK k K a) g tt te fin W /\ ∃ m, W 0 m [] σ H := by
  refine ⟨fun i m ys σ H => m = xs.length - i /\ i <= xs.length /\ ys.length <= i /\ S σ /\ Pv i ys H, ?_, xs.length, by simp, Nat.zero_le _, Nat.le_refl _, hσ, h0⟩
  rintro i m ys σ H ⟨rfl, hi, hy, hS, p⟩
  have q := hl i ys H hi p
  by_cases hlt : i < xs.length
  · refine .inr ⟨itk_go q hlt, by lia, fun x H' y => ?_⟩
    obtain ⟨e, hy2⟩ := itk_yld q y
    subst e
    have := hs i x ys σ H' (fun ys' σ' H'' => ∃ m', m' < xs.length - i /\ m' = xs.length - (i + 1) /\ i + 1 <= xs.length /\ ys'.length <= i + 1 /\ S σ' /\ Pv (i + 1) ys' H'') hy2 hS p (fun ys' σ' H'' a b c => ⟨_, by lia, rfl, hlt, by lia, a, b⟩)
    exact this
  · have e : i = xs.length := by lia
    subst e
    exact .inl ⟨itk_stop q (Nat.le_refl _), by lia, hd ys H p⟩
theorem for_enum {k : Kd} {K : PySem.W.Frag} {a : Addr} {xs : List V} {g : TG} {tb : TS} {D : Ends} {σ : St} {H : Hp} (Pv : Nat -> St -> Hp -> Prop) (h0 : Pv 0 σ H) (hl : ∀ i σ H, i <= xs.length -> Pv i σ H -> SqK k K H a xs)
    (hs : ∀ (i : Nat) x p σ H, xs[i]? = some x -> Pv i σ H -> H p = none -> g (.ref p) σ (upd H p (.tup [.int i, x])) fun σ2 H2 => tb { D with nx := Pv (i + 1), ct := Pv (i + 1), bk := D.nx } σ2 H2) (hd : ∀ σ H, Pv xs.length σ H -> D.nx σ H) :
    ∃ W : Nat -> Nat -> St -> Hp -> Prop, (∃ m, W 0 m σ H) /\ ∀ i m σ H, W i m σ H ->
      ((ItE k K a).stop i H /\ D.nx σ H) \/ ((ItE k K a).go i H /\ ∃ N : St -> Hp -> Prop, (∀ σ' H', N σ' H' -> ∃ m', m' < m /\ W (i + 1) m' σ' H') /\ ∀ x H', (ItE k K a).yld i H x H' -> g x σ H' fun σ2 H2 => tb { D with nx := N, ct := N, bk := D.nx } σ2 H2) := by
  refine ⟨fun i m σ H => m = xs.length - i /\ i <= xs.length /\ Pv i σ H, ⟨xs.length, by simp, Nat.zero_le _, h0⟩, ?_⟩
  rintro i m σ H ⟨rfl, hi, p⟩
  have q := hl i σ H hi p
  by_cases hlt : i < xs.length
  · refine .inr ⟨⟨xs, xs[i], q, by simp [hlt]⟩, Pv (i + 1), fun σ' H' p' => ⟨xs.length - (i + 1), by lia, rfl, hlt, p'⟩, fun x H' y => ?_⟩
    obtain ⟨r, y, hn, rfl, hy, rfl⟩ := y
    exact hs i y r σ H (hy xs q) p hn
  · have e : i = xs.length := by lia
    subst e
    exact .inl ⟨⟨xs, q, Nat.le_refl _⟩, hd σ H p⟩
theorem for_rangeC {lo c : Int} {n : Nat} {g : TG} {tb : TS} {D : Ends} {σ : St} {H : Hp} (Pv : Nat -> St -> Hp -> Prop) (h0 : Pv 0 σ H)
    (hs : ∀ (i : Nat) σ H, i < n -> Pv i σ H -> g (.int (lo + i * c)) σ H fun σ2 H2 => tb { D with nx := Pv (i + 1), ct := Pv (i + 1), bk := D.nx } σ2 H2) (hd : ∀ σ H, Pv n σ H -> D.nx σ H) :
    ∃ W : Nat -> Nat -> St -> Hp -> Prop, (∃ m, W 0 m σ H) /\ ∀ i m σ H, W i m σ H ->
      ((Itc lo c n).stop i H /\ D.nx σ H) \/ ((Itc lo c n).go i H /\ ∃ N : St -> Hp -> Prop, (∀ σ' H', N σ' H' -> ∃ m', m' < m /\ W (i + 1) m' σ' H') /\ ∀ x H', (Itc lo c n).yld i H x H' -> g x σ H' fun σ2 H2 => tb { D with nx := N, ct := N, bk := D.nx } σ2 H2) := by
  refine ⟨fun i m σ H => m = n - i /\ i <= n /\ Pv i σ H, ⟨n, by simp, Nat.zero_le _, h0⟩, ?_⟩
  rintro i m σ H ⟨rfl, hi, p⟩
  by_cases hlt : i < n
  · refine .inr ⟨hlt, Pv (i + 1), fun σ' H' p' => ⟨n - (i + 1), by lia, rfl, hlt, p'⟩, fun x H' y => ?_⟩
    obtain ⟨e, y⟩ := y
    subst e y
    exact hs i σ _ hlt p
  · have e : i = n := by lia
    subst e
    exact .inl ⟨Nat.le_refl _, hd σ H p⟩
theorem units66 {A : Around} {k : Nat} (hr : Room k A) : A.units + 66 < cLine := by have := hr.un; lia
def compB (kinds : List (Str × NameKind)) (N : List Str) (scope : Scope) (N' : List Str) (fr : List (Option Nat)) : Bool :=
  (scope.kind == .function) && (scope.names.all fun y => y.2 != .cell) && (scope.names.all fun y => y.2 != .local || scope.names.lookup y.1 == some .local) &&
  (scope.names.all fun y => y.2 != .free || (kinds.lookup y.1 == some .cell || kinds.lookup y.1 == some .free)) && frOk N kinds scope.names N' fr
theorem compOk_of {X : Cx} {scope : Scope} {N' : List Str} {fr : List (Option Nat)} (h : compB X.env.scope.names X.N scope N' fr = true) : CompOk X scope N' fr := by
  unfold compB at h
  simp only [Bool.and_eq_true, List.all_eq_true] at h
  obtain ⟨⟨⟨⟨h1, h2⟩, h3⟩, h4⟩, h5⟩ := h
  refine ⟨by simpa using h1, fun y hy => by simpa using h2 y hy, fun y hy e => ?_, fun y hy e => ?_, h5⟩
  · have := h3 y hy
    rw [e] at this
    simpa using this
  · have := h4 y hy
    rw [e] at this
    simpa [Env.kindOf] using this
theorem yesT {σ : St} {H : Hp} {A B : Hp -> Prop} (h : A H) : tYes σ H fun b H3 => if b = true then A H3 else B H3 := by
  show if true = true then A H else B H
  exact iteT h
section
open PySem.SeqAt
open PySem.AutoSeq1 (wpAny_loadPart')
open PySem.MeetsSeq PySem.MeetsSeq2 PySem.MeetsSeq3
end
section
variable {X : Cx}
end
theorem comp_range {lo : Int} {n : Nat} {g : TG} {tt : TT} {te : TE} {fin : List V -> Hp -> Prop} {σ : St} {H : Hp} (S : St -> Prop) (Pv : Nat -> List V -> Hp -> Prop) (hσ : S σ) (h0 : Pv 0 [] H) (hz : n < sizeLine)
    (hs : ∀ (i : Nat) (ys : List V) (σ : St) (H : Hp) (N : List V -> St -> Hp -> Prop), i < n -> S σ -> Pv i ys H -> (∀ ys' σ' H', S σ' -> Pv (i + 1) ys' H' -> ys'.length <= ys.length + 1 -> N ys' σ' H') ->
      g (.int (lo + i)) σ H fun σ2 H2 => tt σ2 H2 fun b H3 => if b = true then te σ2 H3 fun y H4 => N (ys ++ [y]) σ2 H4 else N ys σ2 H3)
    (hd : ∀ ys H, Pv n ys H -> fin ys H) : ∃ W, CompW (Itr lo n) g tt te fin W /\ ∃ m, W 0 m [] σ H := by
  refine ⟨fun i m ys σ H => m = n - i /\ i <= n /\ ys.length <= i /\ S σ /\ Pv i ys H, ?_, n, by simp, Nat.zero_le _, Nat.le_refl _, hσ, h0⟩
  rintro i m ys σ H ⟨rfl, hi, hy, hS, p⟩
  by_cases hlt : i < n
  · refine .inr ⟨hlt, by omega, fun x H' y => ?_⟩
    obtain ⟨e, y⟩ := y
    subst e y
    exact hs i ys σ _ (fun ys' σ' H'' => ∃ m', m' < n - i /\ m' = n - (i + 1) /\ i + 1 <= n /\ ys'.length <= i + 1 /\ S σ' /\ Pv (i + 1) ys' H'') hlt hS p (fun ys' σ' H'' a b c => ⟨_, by omega, rfl, hlt, by omega, a, b⟩)
  · have e : i = n := by omega
    subst e
    exact .inl ⟨Nat.le_refl _, by omega, hd ys H p⟩
section
variable {X : Cx}
end
def CXr (P : Program) (w : World) : CXT := fun outer H s E e s' => ∃ (ea C : Addr) (a0 : Value) (B : Heap) (H' : Hp), e = .ref ea /\ s'.os = s.os /\ AllBare s'.gens /\ Un (frs outer) [] H H' s.heap s'.heap /\ HOk P w H' s'.heap /\
  Heap.FlyingW B outer ea (.ref C) a0 s'.heap /\ (∀ b o, s'.heap.get? b = some o -> ((∃ q, s.heap.get? b = some q) \/ ∃ q, H' b = some q) -> b ∉ frs outer -> B.get? b = some o) /\ E (.ref C) none H'
section
variable {P : Program} {w : World} {K : PySem.W.Frag} {mg : Str -> Option Value} {base : Heap} {N : List Str} {qual : Str} {scope : Scope} {f : Addr} {cd : Value} {A : Around} {outer : List Env} {s0 : Shared} {H0 : Hp} {E : XK}
end
section
variable {P : Program} {w : World} {K : PySem.W.Frag} {mg : Str -> Option Value} {base : Heap} {N : List Str} {qual : Str} {scope : Scope} {f : Addr} {cd : Value} {A : Around} {outer : List Env} {s0 : Shared} {H0 : Hp} {E : XK}
end
end L2
namespace L2
open PySem PySem.Spec PyProof.Rows PySem.W
section
variable {K : Frag} {prog : Program} {w : World} {A : Around} {E : Value -> Shared -> Prop} {h : Heap} {g : Array GenState} {d : Drawn} {t : Nat} {os : OsState} {a C : Addr} {o : Obj}
end
section
variable {X : Cx}
end
end L2
namespace L2
open PySem PySem.Spec PyProof.Rows PySem.W
section
variable {X : Cx} {pins : List (Addr × Obj)} {σ : St} {H H' : Hp} {s s' : Shared}
end
section
variable {X : Cx} {pins : List (Addr × Obj)} {σ : St} {H H' : Hp} {s s' : Shared} {v : Value}
end
end L2
namespace L2
open PySem PySem.Spec PyProof.Rows
open PySem.AutoSeq1 (wpAny_loadPart')
section
variable {prog : Program} {w : World} {A : Around} {E : Value -> Shared -> Prop} {s : Shared}
theorem code_collect_range {R : Result -> Shared -> Prop} {r : Addr} {a b c : Int} {t u v : Tok} {n : Nat} (hh : A.handled = none) (hr : IsRange s.heap r a b c t u v) (hsm : Builtin.Range.small a b c = true) (hn : Builtin.Range.rangeSize a b c = n) (hl : n <= 2 ^ 24)
    (hR : ∀ h' tk acc c', (∀ b o, s.heap.get? b = some o -> h'.get? b = some o) -> h'.get? s.heap.objs.size = some { cls := .type "list", dict := none, data := .seq acc c', slots := #[] } -> ItemsOf (fun i v => ∃ t, v = .int (a + i * c) t) acc n ->
      R (.ok (.ret (.ref s.heap.objs.size))) { s with heap := h', toks := tk }) : codeAny (model prog w) A (.builtin "proto.collect" ⟨[.ref r], []⟩) R s := by
  refine codeAny_builtin PySem.F.entry_proto_collect ?_
  rw [Around.under_plainId PySem.F.plain_proto_collect _]
  show wpAny _ A.in1 (newList [] >>= fun l => again (.builtin "list.__iadd__" ⟨[l, .ref r], []⟩)) _ _ s
  refine wpAny_bind (wpAny_newObj_type ?_)
  refine wpAny_pure ⟨plainId_quiet PySem.F.plain_list_iadd _, codeAny_builtin PySem.F.entry_list_iadd ?_⟩
  rw [Around.under_plainId PySem.F.plain_list_iadd _]
  show wpAny _ A.in1 (Builtin.List.listExtendWith (.ref s.heap.objs.size) (.ref r) (.ref s.heap.objs.size)) _ _ _
  exact wpAny_extend_range (R := R) (s := { s with heap := s.heap.push { cls := .type "list", data := .seq ([] : List Value).toArray } }) hh (Heap.get?_push_of_some _ hr) hsm hn hl s.heap.objs.size (.ref s.heap.objs.size) 0 (Heap.get?_push_size _ rfl) fun h' tk acc c' hk hS hacc =>
    hR h' tk acc c' (fun b o e => hk b o (Nat.ne_of_lt (Heap.lt_size e)) (Heap.get?_push_of_some _ e)) hS hacc
theorem collect_range {Q : List Value -> Shared -> Prop} {r : Addr} {a b c : Int} {t u v : Tok} {n : Nat} (hh : A.handled = none) (hr : IsRange s.heap r a b c t u v) (hsm : Builtin.Range.small a b c = true) (hn : Builtin.Range.rangeSize a b c = n) (hl : n <= 2 ^ 24)
    (hQ : ∀ h' tk acc, (∀ b o, s.heap.get? b = some o -> h'.get? b = some o) -> s.heap.objs.size < h'.objs.size -> ItemsOf (fun i v => ∃ t, v = .int (a + i * c) t) acc n -> Q acc.toList { s with heap := h', toks := tk }) : wpAny (model prog w) A (collect (.ref r)) Q E s := by
  unfold collect
  refine wpAny_bind (wpAny_runValue (code_collect_range hh hr hsm hn hl fun h' tk acc c' hk hS hacc => ?_))
  show wpAny _ A (load s.heap.objs.size >>= _) _ _ _
  refine wpAny_bind (wpAny_load hS ?_)
  exact wpAny_pure (hQ h' tk acc hk (Heap.lt_size hS) hacc)
end
theorem new_tuple_range (r : Addr) (a b c : Int) (t u v : Tok) (n : Nat) (hsm : Builtin.Range.small a b c = true) (hn : Builtin.Range.rangeSize a b c = n) (hl : n <= 2 ^ 24) :
    Meets (Builtin.«tuple.__new__» ⟨[.type "tuple", .ref r], []⟩)
      (fun A R s => (A.handled = none /\ IsRange s.heap r a b c t u v) /\ ∀ (h' : Heap) (tk : Nat) (acc : Array Value), (∀ b o, s.heap.get? b = some o -> h'.get? b = some o) -> s.heap.objs.size < h'.objs.size -> ItemsOf (fun i v => ∃ t, v = .int (a + i * c) t) acc n ->
        R (.ok (.ret (.ref h'.objs.size))) { s with heap := h'.push { cls := .type "tuple", data := .seq acc }, toks := tk }) :=
  .of_wp fun prog w A R s h => by
    obtain ⟨⟨hh, hr⟩, h⟩ := h
    have hsub := sub_tuple_self
    have hinit := init_tuple_lookup
    have hmh := madeHere_tuple
    have hT : s.TypeIs (.ref r) "range" := ⟨_, hr, rfl⟩
    have hh1 : A.in1.handled = none := hh
    wp_walk using wpAny_typeOf hT, collect_range hh1 hr hsm hn hl
    intro h' tk acc hk hz hacc
    show wpAny _ _ (Builtin.Tuple.tupleExact acc.toList.toArray >>= fun v => ret v) _ _ _
    unfold Builtin.Tuple.tupleExact
    refine wpAny_bind (wpAny_newObj_type ?_ (show acc.toList.toArray.size <= sizeLine by simp only [Array.toArray_toList]; rw [hacc.1, sizeLine_eq]; omega))
    refine wpAny_pure ⟨_, rfl, ?_⟩
    have e : acc.toList.toArray = acc := by simp
    rw [e]
    exact h h' tk acc hk hz hacc
def upN (n : Nat) : List V := (List.range n).map fun (i : Nat) => V.int i
theorem items_up {acc : Array Value} {n : Nat} (h : ItemsOf (fun i v => ∃ t, v = .int (0 + (i : Int) * 1) t) acc n) : Vals (upN n) acc.toList := by
  obtain ⟨hz, hi⟩ := h
  have key : ∀ (l : List Value) (k : Nat), (∀ (j : Nat) (v : Value), l[j]? = some v -> ∃ t, v = Value.int ((k + j : Nat) : Int) t) -> Vals ((List.range' k l.length).map fun (i : Nat) => V.int i) l := by
    intro l
    induction l with
    | nil => intro k _; exact .nil
    | cons a r ih =>
      intro k hk
      obtain ⟨t, e⟩ := hk 0 a rfl
      refine .cons ⟨t, by simpa using e⟩ (ih (k + 1) fun j v e => ?_)
      obtain ⟨t', e'⟩ := hk (j + 1) v (by simpa using e)
      exact ⟨t', by rw [e']; congr 2; omega⟩
  have := key acc.toList 0 fun j v e => by
    obtain ⟨t, e'⟩ := hi j v (by simpa using e)
    exact ⟨t, by rw [e']; congr 1; simp⟩
  have el : acc.toList.length = n := by simpa using hz
  rw [el] at this
  unfold upN
  rw [List.range_eq_range']
  exact this
section
variable {X : Cx}
theorem call_range1 : CallR X (.type "range") (fun xs H Q => ∃ j : Int, xs = [.int j] /\ ∀ p, H p = none -> Q (.ref p) (upd H p (.rng 0 j))) := by
  intro pins s σ H xs us Q I r h
  obtain ⟨j, rfl, q⟩ := h
  obtain ⟨u, rfl, ru⟩ := Vals.one r
  obtain ⟨t, rfl⟩ := ru
  refine call_range_1 ⟨.ref s.heap.objs.size, upd H s.heap.objs.size (.rng 0 j), I.laid (fun b o e => Heap.get?_push_of_some _ e) (Nat.le_refl _) ?_, rfl, q _ (I.hok.fresh (Nat.le_refl _))⟩
  exact ⟨_, _, _, Heap.get?_push_size _ rfl⟩
theorem size1 (n : Nat) : Builtin.Range.rangeSize 0 (n : Int) 1 = (n : Int) := by rw [rangeSize_one]; split <;> omega
theorem call_list_rng (hc : X.calm = true) : CallR X (.type "list") (fun xs H Q => ∃ (p : Addr) (n : Nat), xs = [.ref p] /\ H p = some (.rng 0 n) /\ n <= 1000 /\ ∀ l, H l = none -> Q (.ref l) (upd H l (.lst (upN n)))) := by
  intro pins s σ H xs us Q I r h
  obtain ⟨p, n, rfl, hp, hn, q⟩ := h
  obtain ⟨u, rfl, ru⟩ := Vals.one r
  cases (show u = Value.ref p from ru)
  obtain ⟨t1, t2, t3, e⟩ := I.hok p _ hp
  refine call_list_range (t := t1) (u := t2) (v := t3) (I.ok.hd hc) e (small_one (by decide) (by decide) (by omega) (by omega)) (size1 n) (by omega) fun h' tk acc c' hk hS hacc => ?_
  refine ⟨.ref s.heap.objs.size, upd H s.heap.objs.size (.lst (upN n)), I.laid hk (Nat.le_refl _) ?_, rfl, q _ (I.hok.fresh (Nat.le_refl _))⟩
  exact ⟨by unfold upN; rw [List.length_map, List.length_range]; exact Nat.le_trans hn (by decide), acc.toList, c', items_up hacc, by rw [hS]⟩
theorem intsAre_V {ns : List Int} : ∀ {us : List Value}, Vals (ns.map V.int) us -> IntsAre us ns := by
  induction ns with
  | nil => intro us r; rw [Vals.zero r]; exact .nil
  | cons y ys ih =>
    intro us r
    cases r with
    | cons h t =>
      obtain ⟨tk, rfl⟩ := h
      exact .cons y tk (ih t)
end
theorem vals_of_ints {us : List Value} {ns : List Int} (h : IntsAre us ns) : Vals (ns.map V.int) us := by
  induction h with
  | nil => exact .nil
  | cons n t _ ih => exact .cons ⟨t, rfl⟩ ih
section
variable {X : Cx}
def rSortedI (K : PySem.W.Frag) : List V -> Hp -> VK -> Prop := fun xs H Q => ∃ (p : Addr) (ns : List Int), xs = [.ref p] /\ SqL K H p (ns.map V.int) /\ ns.length < 64 /\ ∀ (l : Addr) (ms : List Int), ms.Perm ns -> ms.Pairwise (· <= ·) -> H l = none -> Q (.ref l) (upd H l (.lst (ms.map V.int)))
theorem call_sortedI : CallR X (.builtin "sorted") (rSortedI X.K) := by
  intro pins s σ H xs us Q I r h
  obtain ⟨p, ns, rfl, hp, hn, q⟩ := h
  obtain ⟨u, rfl, ru⟩ := Vals.one r
  cases (show u = Value.ref p from ru)
  obtain ⟨its, r1, t1, _⟩ := I.list hp
  have hl : its.length = ns.length := by have := r1.length; rw [List.length_map] at this; lia
  refine sorted_ints t1.isList (intsAre_of r1) (by lia) fun out ms a1 a2 a3 => ?_
  obtain ⟨e, he⟩ := sortedAll_at s.heap its out
  have fr : s.heap.objs.size <= s.heap.objs.size + 1 := Nat.le_succ _
  refine ⟨.ref (s.heap.objs.size + 1), upd H (s.heap.objs.size + 1) (.lst (ms.map V.int)), I.laid (t' := s.toks) (fun b o z => sortedAll_old z) fr ?_, rfl, q _ ms a2 a3 (I.hok.fresh fr)⟩
  refine ⟨?_, out.toList, e, vals_of_ints a1, by rw [he]⟩
  rw [List.length_map, a2.length_eq]
  exact Nat.le_trans (Nat.le_of_lt hn) (by decide)
end
end L2
namespace L2
open PySem PySem.Spec PyProof.Rows PySem.W
def XP (X : Cx) (pins : List (Addr × Obj)) (DX : St -> XK) (e : Value) (s' : Shared) : Prop := ∃ σ H s, Inv X pins σ H s /\ CXr X.prog X.w X.stack H s (DX σ) e s'
section
variable {X : Cx}
end
end L2
namespace L2
open PySem PySem.Spec PyProof.Rows
section
variable {X : Cx}
end
section
variable {κ : Type} [DecidableEq κ]
def valV (kvs : List (κ × V)) (k : κ) : Option V := (kvs.find? fun kv => decide (kv.1 = k)).map (·.2)
def putK (kvs : List (κ × V)) (k : κ) (v : V) : List (κ × V) :=
  if (kvs.any fun kv => decide (kv.1 = k)) = true then kvs.map (fun kv => if kv.1 = k then (kv.1, v) else kv) else kvs ++ [(k, v)]
theorem valV_pos {p : κ × V} {r : List (κ × V)} {k : κ} (e : p.1 = k) : valV (p :: r) k = some p.2 := by simp [valV, List.find?_cons, e]
theorem valV_neg {p : κ × V} {r : List (κ × V)} {k : κ} (e : ¬ p.1 = k) : valV (p :: r) k = valV r k := by simp [valV, List.find?_cons, e]
theorem valV_any (k : κ) : ∀ kvs : List (κ × V), (kvs.any fun kv => decide (kv.1 = k)) = (valV kvs k).isSome
  | [] => rfl
  | p :: r => by
    rw [List.any_cons]
    by_cases e : p.1 = k
    · simp only [valV_pos e, decide_eq_true e, Bool.true_or, Option.isSome_some]
    · rw [valV_neg e, decide_eq_false e, Bool.false_or]; exact valV_any k r
theorem valV_map (k j : κ) (y : V) : ∀ kvs : List (κ × V), valV (kvs.map fun kv => if kv.1 = k then (kv.1, y) else kv) j = (valV kvs j).map fun x => if j = k then y else x
  | [] => rfl
  | p :: r => by
    have ih := valV_map k j y r
    rw [List.map_cons]
    by_cases h : p.1 = k
    · rw [if_pos h]
      by_cases e : p.1 = j
      · rw [valV_pos (p := (p.1, y)) e, valV_pos e, Option.map_some, if_pos (e.symm.trans h)]
      · rw [valV_neg (p := (p.1, y)) e, valV_neg e, ih]
    · rw [if_neg h]
      by_cases e : p.1 = j
      · rw [valV_pos (p := p) e, valV_pos e, Option.map_some, if_neg (fun z => h (e.trans z))]
      · rw [valV_neg (p := p) e, valV_neg e, ih]
theorem valV_snoc (k j : κ) (y : V) : ∀ kvs : List (κ × V), valV kvs k = none -> valV (kvs ++ [(k, y)]) j = if j = k then some y else valV kvs j
  | [], _ => by
    by_cases e : k = j
    · rw [if_pos e.symm]; exact valV_pos (p := (k, y)) e
    · rw [if_neg (fun z => e z.symm)]; exact valV_neg (p := (k, y)) e
  | p :: r, hn => by
    rw [List.cons_append]
    have hk : ¬ p.1 = k := fun z => by rw [valV_pos z] at hn; cases hn
    rw [valV_neg hk] at hn
    have ih := valV_snoc k j y r hn
    by_cases e : p.1 = j
    · rw [valV_pos e, valV_pos e, if_neg (fun z => hk (e.trans z))]
    · rw [valV_neg e, valV_neg e, ih]
theorem valV_put (kvs : List (κ × V)) (k j : κ) (y : V) : valV (putK kvs k y) j = if j = k then some y else valV kvs j := by
  unfold putK
  by_cases a : (kvs.any fun kv => decide (kv.1 = k)) = true
  · rw [if_pos a, valV_map]
    rw [valV_any] at a
    by_cases e : j = k
    · obtain ⟨x, hx⟩ := Option.isSome_iff_exists.mp a
      rw [if_pos e, e, hx, Option.map_some, if_pos rfl]
    · rw [if_neg e]
      cases valV kvs j with
      | none => rfl
      | some x => rw [Option.map_some, if_neg e]
  · rw [if_neg a]
    refine valV_snoc k j y kvs ?_
    rw [valV_any] at a
    cases q : valV kvs k with
    | none => rfl
    | some x => rw [q] at a; exact (a rfl).elim
theorem length_putK (kvs : List (κ × V)) (k : κ) (v : V) : (putK kvs k v).length <= kvs.length + 1 := by
  unfold putK
  split
  · rw [List.length_map]; lia
  · rw [List.length_append, List.length_cons, List.length_nil]; lia
theorem RelO.isSome_eq {o : Option V} {u : Option Value} (r : RelO o u) : o.isSome = u.isSome := by
  cases o with
  | none => cases u with
    | none => rfl
    | some _ => exact (show False from r).elim
  | some _ => cases u with
    | none => exact (show False from r).elim
    | some _ => rfl
theorem KV.val {kvs : List (κ × V)} {vs : List (κ × Value)} (r : KV kvs vs) (k : κ) : RelO (valV kvs k) (valueAt vs k) := by
  unfold KV at r
  induction r with
  | nil => exact True.intro
  | @cons p q ps qs h t ih =>
    obtain ⟨h1, h2⟩ := h
    by_cases e : p.1 = k
    · have e' : q.1 = k := h1.symm.trans e
      have b : valueAt (q :: qs) k = some q.2 := by simp [valueAt, List.find?_cons, e']
      rw [valV_pos e, b]; exact h2
    · have e' : ¬ q.1 = k := fun z => e (h1.trans z)
      have b : valueAt (q :: qs) k = valueAt qs k := by simp [valueAt, List.find?_cons, e']
      rw [valV_neg e, b]; exact ih
theorem KV.any {kvs : List (κ × V)} {vs : List (κ × Value)} (r : KV kvs vs) (k : κ) : (kvs.any fun kv => decide (kv.1 = k)) = vs.any fun kv => decide (kv.1 = k) := by
  unfold KV at r
  induction r with
  | nil => rfl
  | cons h t ih => rw [List.any_cons, List.any_cons, ih, h.1]
theorem KV.repl {kvs : List (κ × V)} {vs : List (κ × Value)} (r : KV kvs vs) (k : κ) {y : V} {u : Value} (ry : RelV y u) :
    KV (kvs.map fun kv => if kv.1 = k then (kv.1, y) else kv) (vs.map fun kv => if kv.1 = k then (kv.1, u) else kv) := by
  unfold KV at r ⊢
  induction r with
  | nil => exact .nil
  | @cons p q ps qs h t ih =>
    rw [List.map_cons, List.map_cons]
    refine .cons ?_ ih
    obtain ⟨h1, h2⟩ := h
    by_cases e : p.1 = k
    · rw [if_pos e, if_pos (h1.symm.trans e)]; exact ⟨h1, ry⟩
    · rw [if_neg e, if_neg (fun z => e (h1.trans z))]; exact ⟨h1, h2⟩
theorem KV.put {kvs : List (κ × V)} {vs : List (κ × Value)} (r : KV kvs vs) (k : κ) {y : V} {u : Value} (ry : RelV y u) : KV (putK kvs k y) (stored vs k u) := by
  unfold putK stored
  rw [r.any k]
  by_cases e : (vs.any fun kv => decide (kv.1 = k)) = true
  · rw [if_pos e, if_pos e]; exact r.repl k ry
  · rw [if_neg e, if_neg e]; exact Paired.snoc r ⟨rfl, ry⟩
theorem KV.length {kvs : List (κ × V)} {vs : List (κ × Value)} (r : KV kvs vs) : kvs.length = vs.length := Paired.length r
end
theorem kV_is {P : Program} {w : World} {k : Key} {u : Value} (r : RelV (kV k) u) : (mixKind P w).is k u = true := by
  cases k with
  | inl i => obtain ⟨t, e⟩ := (show ∃ t, u = Value.int i t from r); subst e; exact mixKind_int P w i t
  | inr x => obtain ⟨t, e⟩ := (show ∃ t, u = Value.str x t from r); subst e; exact mixKind_str P w x t
theorem items_are {P : Program} {w : World} : ∀ {ks : List Key} {us : List Value}, Vals (ks.map kV) us -> ItemsAre (mixKind P w) ks us
  | [], _, r => by rw [List.map_nil] at r; cases r; exact .nil
  | k :: ks, _, r => by
    rw [List.map_cons] at r
    cases r with
    | cons h t => exact .cons (kV_is h) (items_are t)
abbrev KT (H : Hp) : List (List Key × V) -> List (List Key × Addr × Value) -> Prop := Paired fun p q => p.1 = q.1 /\ H q.2.1 = some (.tup (p.1.map kV)) /\ RelV p.2 q.2.2
theorem KT.val {H : Hp} {kvs : List (List Key × V)} {xs : List (List Key × Addr × Value)} (r : KT H kvs xs) (k : List Key) : RelO (valV kvs k) ((atKey xs k).map (·.2)) := by
  induction r with
  | nil => exact True.intro
  | @cons p q ps qs h t ih =>
    obtain ⟨h1, _, h2⟩ := h
    by_cases e : p.1 = k
    · have e' : q.1 = k := h1.symm.trans e
      have b : atKey (q :: qs) k = some q.2 := by simp [atKey, List.find?_cons, e']
      rw [valV_pos e, b]; exact h2
    · have e' : ¬ q.1 = k := fun z => e (h1.trans z)
      have b : atKey (q :: qs) k = atKey qs k := by simp [atKey, List.find?_cons, e']
      rw [valV_neg e, b]; exact ih
theorem KT.repl {H : Hp} {kvs : List (List Key × V)} {xs : List (List Key × Addr × Value)} (r : KT H kvs xs) (k : List Key) {y : V} {u : Value} (ry : RelV y u) :
    KT H (kvs.map fun kv => if kv.1 = k then (kv.1, y) else kv) (xs.map (putAt k u)) := by
  induction r with
  | nil => exact .nil
  | @cons p q ps qs h t ih =>
    rw [List.map_cons, List.map_cons]
    refine .cons ?_ ih
    obtain ⟨h1, h2, h3⟩ := h
    unfold putAt
    by_cases e : p.1 = k
    · rw [if_pos e, if_pos (h1.symm.trans e)]; exact ⟨h1, h2, ry⟩
    · rw [if_neg e, if_neg (fun z => e (h1.trans z))]; exact ⟨h1, h2, h3⟩
theorem KT.put {H : Hp} {kvs : List (List Key × V)} {xs : List (List Key × Addr × Value)} (r : KT H kvs xs) (k : List Key) {b : Addr} {y : V} {u : Value} (hb : H b = some (.tup (k.map kV))) (ry : RelV y u) :
    KT H (putK kvs k y) (storedH xs k b u) := by
  have e : (kvs.any fun kv => decide (kv.1 = k)) = (atKey xs k).isSome := by
    rw [valV_any, (r.val k).isSome_eq, Option.isSome_map]
  unfold putK storedH
  rw [e]
  by_cases q : (atKey xs k).isSome = true
  · rw [if_pos q, if_pos q]; exact r.repl k ry
  · rw [if_neg q, if_neg q]; exact Paired.snoc r ⟨rfl, hb, ry⟩
theorem KT.keeps {H H' : Hp} {kvs : List (List Key × V)} {xs : List (List Key × Addr × Value)} (r : KT H kvs xs) (ht : ∀ b ys, H b = some (.tup ys) -> H' b = some (.tup ys)) : KT H' kvs xs :=
  Paired.mapP r fun _ _ z => ⟨z.1, ht _ _ z.2.1, z.2.2⟩
section
variable {P : Program} {w : World} {H : Hp} {h : Heap} {a : Addr}
theorem rd_of {u : HO} (ok : HOk P w H h) (e : Rd H a u) : ObjOk P w H h a u := e.ok ok
theorem dk_rd {kvs : List (Key × V)} (ok : HOk P w H h) (e : Rd H a (.dK kvs)) : kvs.length <= sizeLine /\ (a == sysModules) = false /\ ∃ vs, KV kvs vs /\ h.DictOf (mixKind P w) a vs :=
  show ObjOk P w H h a (.dK kvs) from rd_of ok e
theorem dk_of {kvs : List (Key × V)} (ok : HOk P w H h) (e : H a = some (.dK kvs)) : kvs.length <= sizeLine /\ (a == sysModules) = false /\ ∃ vs, KV kvs vs /\ h.DictOf (mixKind P w) a vs := dk_rd ok (.inl e)
theorem key_of {ks : List Key} (ok : HOk P w H h) (e : H a = some (.tup (ks.map kV))) : (tupleKind (mixKind P w)).is h ks a := by
  obtain ⟨_, its, r, o, h1, h2, n, h3⟩ := (show ObjOk P w H h a (.tup (ks.map kV)) from ok a _ e)
  exact ⟨o, its.toArray, n, h1, h2, h3, by simpa using items_are r⟩
theorem dt_rd {kvs : List (List Key × V)} (ok : HOk P w H h) (e : Rd H a (.dT kvs)) : kvs.length <= sizeLine /\ (a == sysModules) = false /\
    ∃ xs, KT H kvs xs /\ h.DictOfH (tupleKind (mixKind P w)) a xs := by
  obtain ⟨z, y, xs, r, o, es, ep, h1, h2, h3, h4, h5⟩ := (show ObjOk P w H h a (.dT kvs) from rd_of ok e)
  refine ⟨z, y, xs, r, o, es, ep, h1, h2, h3, h4, fun x hx => ?_, h5⟩
  have all : ∀ {l : List (List Key × V)} {m : List (List Key × Addr × Value)}, KT H l m -> ∀ x ∈ m, (tupleKind (mixKind P w)).is h x.1 x.2.1 := by
    intro l m q
    induction q with
    | nil => intro x hx; exact nomatch hx
    | @cons p q ps qs hq t ih =>
      intro x hx
      rcases List.mem_cons.mp hx with e | hx
      · subst e
        exact key_of ok (by rw [<- hq.1]; exact hq.2.1)
      · exact ih x hx
  exact all r x hx
theorem dt_of {kvs : List (List Key × V)} (ok : HOk P w H h) (e : H a = some (.dT kvs)) : kvs.length <= sizeLine /\ (a == sysModules) = false /\
    ∃ xs, KT H kvs xs /\ h.DictOfH (tupleKind (mixKind P w)) a xs := dt_rd ok (.inl e)
end
def DGet (H : Hp) (a : Addr) (y : V) (r : Option V) : Prop :=
  (∃ kvs k, Rd H a (.dK kvs) /\ y = kV k /\ r = valV kvs k) \/ ∃ kvs k b, Rd H a (.dT kvs) /\ y = .ref b /\ H b = some (.tup (k.map kV)) /\ r = valV kvs k
def DPut (H : Hp) (a : Addr) (y v : V) (H' : Hp) : Prop :=
  (∃ kvs k, H a = some (.dK kvs) /\ y = kV k /\ kvs.length < sizeLine /\ H' = upd H a (.dK (putK kvs k v))) \/
  ∃ kvs k b, H a = some (.dT kvs) /\ y = .ref b /\ H b = some (.tup (k.map kV)) /\ kvs.length < sizeLine /\ H' = upd H a (.dT (putK kvs k v))
theorem DGet.k {H : Hp} {a : Addr} {kvs : List (Key × V)} {k : Key} (e : H a = some (.dK kvs)) : DGet H a (kV k) (valV kvs k) := .inl ⟨kvs, k, .inl e, rfl, rfl⟩
theorem DPut.k {H : Hp} {a : Addr} {kvs : List (Key × V)} {k : Key} {v : V} (e : H a = some (.dK kvs)) (hl : kvs.length < sizeLine) : DPut H a (kV k) v (upd H a (.dK (putK kvs k v))) := .inl ⟨kvs, k, e, rfl, hl, rfl⟩
section
variable {X : Cx} {pins : List (Addr × Obj)} {σ : St} {H : Hp} {s : Shared} {a : Addr} {y v : V} {u r : Value} {o : Option V} {A : Around} {E : Value -> Shared -> Prop}
theorem Inv.big (I : Inv X pins σ H s) : sysModules < s.heap.objs.size := by
  have h : mainGlobals < s.heap.objs.size := (I.mod.glob.keeps I.bk).lt
  exact Nat.lt_trans (by decide) h
theorem d_getItem {Q : Value -> Shared -> Prop} (hu : A.units + 1 < cLine) (I : Inv X pins σ H s) (g : DGet H a y (some v)) (ry : RelV y u) (h : ∀ w' s', Inv X pins σ H s' -> RelV v w' -> Q w' s') :
    wpAny (model X.prog X.w) A (getItem (.ref a) u) Q E s := by
  rcases g with ⟨kvs, k, e, ey, l⟩ | ⟨kvs, k, b, e, ey, eb, l⟩
  · subst ey
    obtain ⟨z, hd, vs, rel, dd⟩ := dk_rd I.hok e
    obtain ⟨w', hw, rw'⟩ := RelO.some_of (v := v) (o := valueAt vs k) (by rw [l]; exact rel.val k)
    exact wpAny_getItem_of (kV_is ry) dd.mapOf hw (h w' _ (I.tok _) rw')
  · subst ey
    cases (show u = Value.ref b from ry)
    obtain ⟨z, hd, xs, rel, dd⟩ := dt_rd I.hok e
    obtain ⟨w', hw, rw'⟩ := RelO.some_of (v := v) (o := (atKey xs k).map (·.2)) (by rw [l]; exact rel.val k)
    obtain ⟨p, hp, hp2⟩ := Option.map_eq_some_iff.mp hw
    refine wpAny_getItem_heap (tupleKind_room_in1 hu) (key_of I.hok eb) dd hp ?_
    rw [hp2]
    exact h w' _ (I.tok _) rw'
theorem d_notIn {Q : Value -> Shared -> Prop} (hu : A.units + 1 < cLine) (I : Inv X pins σ H s) (g : DGet H a y o) (ry : RelV y u) (h : ∀ s', Inv X pins σ H s' -> Q (.bool (!o.isSome)) s') :
    wpAny (model X.prog X.w) A (compareOp .NotIn u (.ref a)) Q E s := by
  rcases g with ⟨kvs, k, e, ey, l⟩ | ⟨kvs, k, b, e, ey, eb, l⟩
  · subst ey
    obtain ⟨z, hd, vs, rel, dd⟩ := dk_rd I.hok e
    refine wpAny_notIn_of (kV_is ry) hd dd.mapOf ?_
    rw [<- (rel.val k).isSome_eq, <- l]
    exact h _ (I.tok _)
  · subst ey
    cases (show u = Value.ref b from ry)
    obtain ⟨z, hd, xs, rel, dd⟩ := dt_rd I.hok e
    refine wpAny_notIn_heap (tupleKind_room_in1 hu) (key_of I.hok eb) hd dd ?_
    have q := (rel.val k).isSome_eq
    rw [Option.isSome_map] at q
    rw [<- q, <- l]
    exact h _ (I.tok _)
theorem d_write {h' : Heap} {t' : Nat} {ob : HO} (I : Inv X pins σ H s) (mu : Mut (H a)) (hs : Heap.SameBut a s.heap h') (he : ∃ q, h'.get? a = some q) (new : ObjOk X.prog X.w (upd H a ob) h' a ob) :
    Inv X pins σ (upd H a ob) { s with heap := h', toks := t' } :=
  I.write (x := a) (e := a) mu (.inl rfl) (fun b q hb z => (hs.2 b hb).trans z) he new
theorem dk_new {P : Program} {w : World} {H' : Hp} {h' : Heap} {kvs : List (Key × V)} {vs : List (Key × Value)} (z : kvs.length <= sizeLine) (hd : (a == sysModules) = false) (rel : KV kvs vs) (dd : h'.DictOf (mixKind P w) a vs) :
    ObjOk P w H' h' a (.dK kvs) := ⟨z, hd, vs, rel, dd⟩
theorem d_setItem {H' : Hp} {Q : Unit -> Shared -> Prop} (hu : A.units + 1 < cLine) (I : Inv X pins σ H s) (g : DPut H a y v H') (ry : RelV y u) (rv : RelV v r) (h : ∀ s', Inv X pins σ H' s' -> Q () s') :
    wpAny (model X.prog X.w) A (setItem (.ref a) u r) Q E s := by
  rcases g with ⟨kvs, k, e, ey, l, eH⟩ | ⟨kvs, k, b, e, ey, eb, l, eH⟩
  · subst ey eH
    obtain ⟨z, hd, vs, rel, dd⟩ := dk_of I.hok e
    have hz : vs.length <= sizeLine := by rw [<- rel.length]; exact z
    have hl : (putK kvs k v).length <= sizeLine := by have := length_putK kvs k v; lia
    refine wpAny_setItem_pairs (hsz := hz) (kV_is ry) dd fun h' dd' hs => h _ ?_
    have he : ∃ q, h'.get? a = some q := let ⟨q, _, _, hq, _⟩ := dd'; ⟨q, hq⟩
    exact d_write I (by rw [e]; exact True.intro) hs he (dk_new hl hd (rel.put k rv) dd')
  · subst ey eH
    cases (show u = Value.ref b from ry)
    obtain ⟨z, hd, xs, rel, dd⟩ := dt_of I.hok e
    have hz : xs.length <= sizeLine := by rw [<- Paired.length rel]; exact z
    have hl : (putK kvs k v).length <= sizeLine := by have := length_putK kvs k v; lia
    refine wpAny_setItem_heap (hsz := hz) (tupleKind_room_in1 hu) (key_of I.hok eb) dd fun h' dd' hs => h _ ?_
    obtain ⟨q, es, ep, hq, h2, h3, h4, _, h5⟩ := dd'
    refine d_write I (by rw [e]; exact True.intro) hs ⟨q, hq⟩ ⟨hl, hd, _, (rel.put k eb rv).keeps fun c ys ec => ?_, q, es, ep, hq, h2, h3, h4, h5⟩
    rw [upd_ne (ne_of ec e (fun z => nomatch z))]
    exact ec
end
section
variable {X : Cx} {pins : List (Addr × Obj)} {σ : St} {H : Hp} {s : Shared} {a : Addr} {kvs : List (Key × V)} {k : Key} {u : Value} {A : Around} {E : Value -> Shared -> Prop}
end
def NoSl (i : Expr) : Prop := ∀ ov iv, subscripted i false ov iv = operate [ov, iv] (getItem ov iv)
theorem subD_of {prog : Program} {w : World} {A : Around} {E : Value -> Shared -> Prop} {s : Shared} {env : Env} {value slice : Expr} {pos : Pos} {T id : String} {Q : Value -> Shared -> Prop}
    (hl : typeLookup (.type T) "__getitem__" = pure (some (.builtin id))) (hs : NoSl slice)
    (h : wpAny (model prog w) A (eval value env) (fun o s₁ => wpAny (model prog w) A (eval slice env) (fun i s₂ => s₂.TypeIs o T /\ wpAny (model prog w) A (getItem o i) Q E s₂) E s₁) E s) :
    wpAny (model prog w) A (eval (.Subscript value slice pos) env) Q E s := by
  refine Subscript_ (wpAny_mono h (fun o s₁ h₁ => wpAny_mono h₁ (fun i s₂ h₂ => ?_) fun _ _ x => x) fun _ _ x => x)
  obtain ⟨hT, h₂⟩ := h₂
  unfold subscriptTail
  refine wpAny_bind ?_
  rw [getitemInPython_of_ne hT.not_modules]
  refine wpAny_bind (wpAny_specialOf hT hl ?_)
  have fin : wpAny (model prog w) A (subscripted slice false o i) (fun r s₃ => wpAny (model prog w) A (letTemporaryGo value o r >>= fun _ => pure r) Q E s₃) E s₂ := by
    rw [hs o i]
    exact wpAny_operating (wpAny_mono h₂ (fun r s₃ h₃ => wpAny_bind (wpAny_letTemporaryGo (wpAny_pure h₃))) fun _ _ x => x)
  first
    | exact wpAny_pure (wpAny_bind fin)
    | exact wpAny_bind (wpAny_pure (wpAny_bind fin))
    | exact wpAny_bind fin
theorem dict_typeIs {X : Cx} {pins : List (Addr × Obj)} {σ : St} {H : Hp} {s : Shared} {a : Addr} {y : V} {o : Option V} (I : Inv X pins σ H s) (g : DGet H a y o) : s.TypeIs (.ref a) "dict" := by
  rcases g with ⟨kvs, k, e, _, _⟩ | ⟨kvs, k, b, e, _, _, _⟩
  · obtain ⟨_, _, vs, _, dd⟩ := dk_rd I.hok e
    exact dd.typeIs
  · obtain ⟨_, _, xs, _, dd⟩ := dt_rd I.hok e
    exact dd.typeIs
def tDGet (td ty : TE) : TE := fun σ H Q => td σ H fun x H1 => ty σ H1 fun y H2 => ∃ a v, x = .ref a /\ DGet H2 a y (some v) /\ Q v H2
def tDNotIn (ty td : TE) : TE := fun σ H Q => ty σ H fun y H1 => td σ H1 fun x H2 => ∃ a o, x = .ref a /\ DGet H2 a y o /\ Q (.bl (!o.isSome)) H2
def sDPut (td ty tv : TE) : TS := fun D σ H => tv σ H fun v H1 => td σ H1 fun x H2 => ty σ H2 fun y H3 => ∃ a H4, x = .ref a /\ DPut H3 a y v H4 /\ D.nx σ H4
section
variable {X : Cx} {o i e value : Expr} {pos pos' tpos : Pos} {td ty tv : TE}
theorem pe_dget (hu : X.A.units + 1 < cLine) (ho : PE X o td) (hi : PE X i ty) (hs : NoSl i) : PE X (.Subscript o i pos) (tDGet td ty) := by
  intro pins s σ H Q I h
  refine subD_of PySem.F.slot_dict_getitem.lookup hs (thn (ho pins s σ H _ I h) fun u s1 ⟨x, H1, I1, rx, q1⟩ => thn (hi pins s1 σ H1 _ I1 q1) fun iv s2 ⟨y, H2, I2, ry, a, v, ex, g, q2⟩ => ?_)
  subst ex
  obtain rfl : u = Value.ref a := rx
  exact ⟨dict_typeIs I2 g, d_getItem hu I2 g ry fun w' s3 I3 rw' => ⟨v, H2, I3, rw', q2⟩⟩
theorem pc_dnotin (hu : X.A.units + 1 < cLine) (hi : PE X i ty) (ho : PE X o td) : PC X .NotIn i o (tDNotIn ty td) := by
  intro pins s σ H Q I h
  refine thn (hi pins s σ H _ I h) fun iv s1 ⟨y, H1, I1, ry, q1⟩ => thn (ho pins s1 σ H1 _ I1 q1) fun u s2 ⟨x, H2, I2, rx, a, ov, ex, g, q2⟩ => ?_
  subst ex
  obtain rfl : u = Value.ref a := rx
  exact d_notIn hu I2 g ry fun s3 I3 => ⟨.bl (!ov.isSome), H2, I3, rfl, q2⟩
theorem ps_dput (hu : X.A.units + 1 < cLine) (ho : PE X o td) (hi : PE X i ty) (hv : PE X value tv) (hs : swapsWith value (some (.Subscript o i pos')) pos.line X.env = pure false) :
    PS X (.Assign [.Subscript o i pos'] value pos) (sDPut td ty tv) := by
  intro pins s σ H D I h
  refine wpAny_Assign_Subscript (thn (hv pins s σ H _ I h) fun r s1 ⟨v, H1, I1, rv, q1⟩ => thn (ho pins s1 σ H1 _ I1 q1) fun u s2 ⟨x, H2, I2, rx, q2⟩ => thn (hi pins s2 σ H2 _ I2 q2) fun iv s3 ⟨y, H3, I3, ry, a, H4, ex, g, q3⟩ => ?_) hs
  subst ex
  obtain rfl : u = Value.ref a := rx
  exact d_setItem hu I3 g ry rv fun s4 I4 => ⟨σ, H4, I4, q3⟩
end
theorem dk_empty {P : Program} {w : World} {H : Hp} (h : Heap) (hb : sysModules < h.objs.size) : ObjOk P w H (h.push { cls := .type "dict", data := .dict #[] }) h.objs.size (.dK []) :=
  ⟨Nat.zero_le _, beq_eq_false_iff_ne.mpr (Ne.symm (Nat.ne_of_lt hb)), [], .nil, Heap.DictOf.new h⟩
def tDNewK : TE := fun _ H Q => ∀ p, H p = none -> Q (.ref p) (upd H p (.dK []))
section
variable {X : Cx} {pos : Pos}
theorem pe_dnewK : PE X (.Dict [] [] pos) tDNewK := fun pins s σ H Q I h =>
  wpAny_Dict_empty ⟨.ref s.heap.objs.size, _, I.laid (a := s.heap.objs.size) (o := .dK []) (t' := s.toks) (fun _ _ q => Heap.get?_push_of_some _ q) (Nat.le_refl _) (dk_empty s.heap I.big), rfl, h _ (I.hok.fresh (Nat.le_refl _))⟩
end
structure M2 (X : Cx) (o : Expr) (m : Str) (apos : Pos) (e f : Expr) (cpos : Pos) : Prop where
  base : attributeBase o m X.env (eval o X.env) = eval o X.env
  few : ((backTo cpos (starEach [e, f] X.env)).all (fun x => !x.1) && (backToKw cpos (keywordEach [] X.env)).all (fun x => x.1.isSome)
    && decide (([e, f] : List Expr).length + ([] : List Keyword).length + (if ([] : List Keyword).isEmpty then 0 else 1) < 30)) = true
  line : (apos.endLine == cpos.line) = true
  trees : backTo cpos (starEach [e, f] X.env) = [(false, eval e X.env), (false, eval f X.env)]
section
variable {X : Cx} {pins : List (Addr × Obj)} {σ : St} {H : Hp} {s : Shared} {a : Addr} {y d : V} {u r : Value} {o : Option V} {A : Around} {E : Value -> Shared -> Prop}
end
section
variable {X : Cx} {o e f : Expr} {apos cpos : Pos} {td ty tx : TE}
end
section
variable {X : Cx} {pins : List (Addr × Obj)} {σ : St} {H : Hp} {s : Shared} {a : Addr} {kvs : List (Key × V)} {A : Around} {E : Value -> Shared -> Prop}
end
section
variable {X : Cx} {pins : List (Addr × Obj)} {σ : St} {H : Hp} {s : Shared} {a : Addr} {y : V} {u : Value} {A : Around} {E : Value -> Shared -> Prop}
end
section
variable {prog : Program} {w : World} {A : Around} {E : Value -> Shared -> Prop} {s : Shared} {it d v : Addr} {i ep : Nat} {es : Array DictEntry} {o : Obj}
end
abbrev TTab := List (List Key × V)
section
variable {X : Cx} {pins : List (Addr × Obj)} {σ : St} {H : Hp} {s : Shared} {d : Addr} {kvs : TTab}
end
section
variable {X : Cx}
end
end L2
namespace L2
open PySem PySem.W PyProof.Rows
section
variable {lt : Nat -> Nat -> Bool} {N : Nat}
end
end L2
namespace L2
open PySem PySem.W PyProof.Rows
section
variable {prog : Program} {w : World} {A : Around} {E : Value -> Shared -> Prop} {s : Shared}
end
end L2
namespace L2
open PySem PySem.W PyProof.Rows
section
variable {prog : Program} {w : World} {A : Around} {E : Value -> Shared -> Prop} {s : Shared}
end
section
variable {X : Cx}
end
end L2
namespace L2
open PySem PySem.Spec PyProof.Rows
theorem for_seq {k : Kd} {K : PySem.W.Frag} {a : Addr} {xs : List V} {g : TG} {tb : TS} {D : Ends} {σ : St} {H : Hp} (Pv : Nat -> St -> Hp -> Prop) (h0 : Pv 0 σ H) (hl : ∀ i σ H, i <= xs.length -> Pv i σ H -> SqK k K H a xs)
    (hs : ∀ i x σ H, xs[i]? = some x -> Pv i σ H -> g x σ H fun σ2 H2 => tb { D with nx := Pv (i + 1), ct := Pv (i + 1), bk := D.nx } σ2 H2) (hd : ∀ σ H, Pv xs.length σ H -> D.nx σ H) :
    ∃ W : Nat -> Nat -> St -> Hp -> Prop, (∃ m, W 0 m σ H) /\ ∀ i m σ H, W i m σ H ->
      ((ItK k K a).stop i H /\ D.nx σ H) \/ ((ItK k K a).go i H /\ ∃ N : St -> Hp -> Prop, (∀ σ' H', N σ' H' -> ∃ m', m' < m /\ W (i + 1) m' σ' H') /\ ∀ x H', (ItK k K a).yld i H x H' -> g x σ H' fun σ2 H2 => tb { D with nx := N, ct := N, bk := D.nx } σ2 H2) := by
  cases k with
  | l => exact for_list Pv h0 hl hs hd
  | t => exact for_tup Pv h0 hl hs hd
section
variable {X : Cx}
end
section
open PySem.SeqAt
open PySem.AutoSeq1 (wpAny_loadPart')
open PySem.MeetsSeq PySem.MeetsSeq2 PySem.MeetsSeq3
end
section
variable {X : Cx}
end
section
variable {prog : Program} {w : World} {A : Around} {E : Value -> Shared -> Prop} {s : Shared} {it l : Addr} {its : Array Value}
end
section
variable {X : Cx}
end
def cE (e : Int × Value) : Int × Value := (e.1, .int e.1 0)
def addT (st : Array (Int × Value) × SetTable) (n : Int) : Array (Int × Value) × SetTable :=
  let L := layNew st.2 st.1 n (.int n 0)
  if (!L.2.2.1 && L.2.1.tooFull) = true then ((relayAll L.2.1 L.1 (SetTable.grown L.1.size)).1, (relayAll L.2.1 L.1 (SetTable.grown L.1.size)).2.1) else (L.1, L.2.1)
def tabOf (led : Bool) (ns : List Int) : Array (Int × Value) × SetTable := ns.foldl addT (#[], SetTable.fresh 0 0 led)
theorem insertAt_map {α β : Type} (f : α -> β) (xs : Array α) (p : Nat) (x : α) : (SetTable.insertAt xs p x).map f = SetTable.insertAt (xs.map f) p (f x) := by
  unfold SetTable.insertAt
  simp [Array.map_append, Array.map_push, Array.map_extract]
theorem layNew_c (t : SetTable) (es : Array (Int × Value)) (h : Int) (x : Value) : layNew t (es.map cE) h (.int h 0) = ((layNew t es h x).1.map cE, (layNew t es h x).2) := by
  unfold layNew
  cases t.freeSlot h with
  | none =>
    dsimp only
    rw [Array.map_push, Array.size_map]
    rfl
  | some r =>
    obtain ⟨slot, wd⟩ := r
    dsimp only
    have e : SetTable.insertAt (es.map cE) (t.put slot).2 (h, Value.int h 0) = (SetTable.insertAt es (t.put slot).2 (h, x)).map cE := by rw [insertAt_map]; rfl
    rw [e, Array.size_map]
theorem relayAll_c (t : SetTable) (es : Array (Int × Value)) (wd : Nat) : relayAll t (es.map cE) wd = ((relayAll t es wd).1.map cE, (relayAll t es wd).2) := by
  unfold relayAll
  have e1 : (es.map cE).map (·.1) = es.map (·.1) := by rw [Array.map_map]; rfl
  rw [e1]
  cases t.relaid (es.map (·.1)) wd with
  | none => dsimp only; rw [Array.size_map]
  | some r =>
    obtain ⟨t', order⟩ := r
    dsimp only
    have e2 : order.filterMap ((es.map cE)[·]?) = (order.filterMap (es[·]?)).map cE := by
      rw [Array.map_filterMap]
      congr 1
      funext i
      rw [Array.getElem?_map]
    rw [e2, Array.size_map, Array.size_map]
    split <;> rfl
theorem hash_small {n : Int} (h0 : 0 <= n) (h8 : n <= 8) : hashInt n = n := by
  rcases (show n = 0 \/ n = 1 \/ n = 2 \/ n = 3 \/ n = 4 \/ n = 5 \/ n = 6 \/ n = 7 \/ n = 8 by omega) with rfl | rfl | rfl | rfl | rfl | rfl | rfl | rfl | rfl <;> decide +kernel
def TabS (h : Heap) (a : Addr) (led : Bool) (ns : List Int) : Prop :=
  ∃ o es ep t, h.get? a = some o /\ o.ExactSet /\ o.data = .set es ep t /\ es.map cE = (tabOf led ns).1 /\ t = (tabOf led ns).2 /\ (∀ e ∈ es.toList, (∃ tk, e.2 = .int e.1 tk) /\ 0 <= e.1 /\ e.1 <= 8) /\ (es.toList.map (·.1)).Perm ns /\ t.fits es.size = true /\ es.size < 100
theorem TabS.at {h h' : Heap} {a : Addr} {led : Bool} {ns : List Int} (x : TabS h a led ns) (k : ∀ o, h.get? a = some o -> h'.get? a = some o) : TabS h' a led ns := let ⟨o, es, ep, t, g, r⟩ := x; ⟨o, es, ep, t, k _ g, r⟩
theorem TabS.fresh {h : Heap} {a : Addr} {led : Bool} (hg : h.get? a = some { cls := .type "set", dict := none, data := .set #[] 0 (.fresh 0 0 led) }) : TabS h a led [] :=
  ⟨_, #[], 0, .fresh 0 0 led, hg, ⟨rfl, rfl, rfl⟩, rfl, by simp [tabOf], rfl, (fun e he => by simp at he), .nil, by cases led <;> decide, by decide⟩
theorem tab_snoc (led : Bool) (ns : List Int) (n : Int) : tabOf led (ns ++ [n]) = addT (tabOf led ns) n := by unfold tabOf; rw [List.foldl_append]; rfl
section
variable {prog : Program} {w : World} {A : Around} {E : Value -> Shared -> Prop} {s : Shared} {a : Addr} {led : Bool} {ns : List Int}
theorem elems_int {es : Array (Int × Value)} (h : ∀ e ∈ es.toList, (∃ tk, e.2 = .int e.1 tk) /\ 0 <= e.1 /\ e.1 <= 8) : ElemsOf (intKind prog w) es.toList := by
  intro e he
  obtain ⟨⟨tk, e2⟩, b1, b2⟩ := h e he
  refine ⟨⟨e.1, ?_, ?_⟩, ?_⟩
  · rw [e2]; exact intKind_is _ _ _ _
  · exact (hash_small b1 b2).symm
  · rw [e2]; rfl
theorem find_int {es : Array (Int × Value)} (h : ∀ e ∈ es.toList, (∃ tk, e.2 = .int e.1 tk) /\ 0 <= e.1 /\ e.1 <= 8) (k : Int) : (es.toList.findIdx? fun e => (intKind prog w).is k e.2).isSome = decide (k ∈ es.toList.map (·.1)) := by
  rw [List.findIdx?_isSome]
  have : ∀ e ∈ es.toList, (intKind prog w).is k e.2 = decide (e.1 = k) := fun e he => by
    obtain ⟨⟨tk, e2⟩, _⟩ := h e he
    rw [e2, KeyKind.is_eq_decide (intKind_is prog w e.1 tk) k]
    exact decide_eq_decide.mpr eq_comm
  rw [Bool.eq_iff_iff, List.any_eq_true, decide_eq_true_eq, List.mem_map]
  constructor
  · rintro ⟨e, he, q⟩
    rw [this e he] at q
    exact ⟨e, he, of_decide_eq_true q⟩
  · rintro ⟨e, he, q⟩
    exact ⟨e, he, by rw [this e he]; exact decide_eq_true q⟩
theorem add_tab {k : Int} {tk : Tok} {Q : Bool -> Shared -> Prop} (hS : TabS s.heap a led ns) (k0 : 0 <= k) (k8 : k <= 8) (room : ns.length < 90)
    (q : ∀ b h', Heap.SameBut a s.heap h' -> TabS h' a led (step_dedup ns k) -> Q b { s with heap := h' }) : wpAny (model prog w) A (setAddHashed a (.int k tk) (hashInt k)) Q E s := by
  obtain ⟨o, es, ep, t, ho, hex, hd, ec, et, hel, pm, hf, hz⟩ := hS
  have el := elems_int (prog := prog) (w := w) hel
  have zl : es.size = ns.length := by have := pm.length_eq; simpa using this
  have hb : es.size < scanBound := by unfold scanBound; omega
  unfold setAddHashed setAddHashedIn
  refine wpAny_holding (wpAny_bind (wpAny_setState_of ho hd hf ?_))
  dsimp only
  rw [byScan_of (knd := intKind prog w) (x := .int k tk) rfl hb el]
  simp only [↓reduceIte]
  unfold setAddByScan
  refine wpAny_bind (wpAny_bind (wpAny_rule (wpAny_bind (wpAny_setScan_of (knd := intKind prog w) (intKind_is prog w k tk) ho hd hf el ?_))))
  have fd := find_int (prog := prog) (w := w) hel k
  cases hr : List.findIdx? (fun e => (intKind prog w).is k e.2) es.toList with
  | some j =>
    dsimp only
    rw [hr, Option.isSome_some] at fd
    have km : k ∈ ns := pm.mem_iff.mp (of_decide_eq_true fd.symm)
    have sd : step_dedup ns k = ns := by unfold step_dedup; rw [if_pos (List.any_eq_true.mpr ⟨k, km, by simp⟩)]
    refine wpAny_pure (wpAny_pure ?_)
    have := q false s.heap (Heap.SameBut.refl a s.heap) (by rw [sd]; exact ⟨o, es, ep, t, ho, hex, hd, ec, et, hel, pm, hf, hz⟩)
    exact this
  | none =>
    dsimp only
    rw [hr, Option.isSome_none] at fd
    have km : k ∉ ns := fun z => of_decide_eq_false fd.symm (pm.mem_iff.mpr z)
    have sd : step_dedup ns k = ns ++ [k] := by
      unfold step_dedup
      rw [if_neg (fun z => ?_)]
      obtain ⟨x, hx, e⟩ := List.any_eq_true.mp z
      have : x = k := by simpa using e
      exact km (by rw [<- this]; exact hx)
    have hk := hash_small k0 k8
    have lc := layNew_c t es k (.int k tk)
    have lp := layNew_perm t es k (.int k tk)
    have lf := layNew_fits t es k (.int k tk)
    have ta : addT (tabOf led ns) k = addT (es.map cE, t) k := by rw [ec, et]
    show wpAny _ _ (match layNew t es (hashInt k) (.int k tk) with | (es, t, wasDummy, gave) => _) _ _ s
    rw [hk]
    generalize hL : layNew t es k (.int k tk) = L at lc lp lf ⊢
    obtain ⟨es1, t1, wd, gave⟩ := L
    dsimp only at lc lp lf ⊢
    rw [Array.toList_push] at lp
    have hel1 : ∀ e ∈ es1.toList, (∃ tk, e.2 = .int e.1 tk) /\ 0 <= e.1 /\ e.1 <= 8 := fun e he => by
      rcases List.mem_append.mp (lp.mem_iff.mp he) with he | he
      · exact hel e he
      · rw [List.mem_singleton.mp he]; exact ⟨⟨tk, rfl⟩, k0, k8⟩
    have pm1 : (es1.toList.map (·.1)).Perm (ns ++ [k]) := by
      have := lp.map (·.1)
      rw [List.map_append] at this
      exact this.trans (pm.append (List.Perm.refl _))
    have z1 : es1.size = ns.length + 1 := by have := pm1.length_eq; simpa using this
    have ad : addT (es.map cE, t) k = if (!wd && t1.tooFull) = true then (((relayAll t1 es1 (SetTable.grown es1.size)).1.map cE), (relayAll t1 es1 (SetTable.grown es1.size)).2.1) else (es1.map cE, t1) := by
      unfold addT
      dsimp only
      rw [lc]
      dsimp only
      rw [Array.size_map, relayAll_c]
    have gw : ∀ (b : Bool) {s₁ : Shared} {Q' : Unit -> Shared -> Prop}, Q' () s₁ -> wpAny (model prog w) A (match b with | true => rule "set.scan.the-table-gave-way" | false => pure ()) Q' E s₁ :=
      fun b s₁ Q' hq => by cases b <;> first | exact wpAny_pure hq | exact wpAny_rule hq
    refine wpAny_bind (gw _ ?_)
    have hbv : hashByValue 8 (.int k tk) = pure true := hashByValue_scannable 8 rfl
    have tail : wpAny (model prog w) A (do
        storeSet a es1 t1
        if (!wd && t1.tooFull) = true then do
            (match (relayAll t1 es1 (SetTable.grown es1.size)).2.2 with | true => rule "set.scan.the-table-gave-way" | false => pure ())
            storeSet a (relayAll t1 es1 (SetTable.grown es1.size)).1 (relayAll t1 es1 (SetTable.grown es1.size)).2.1
            pure (some true)
          else pure (some true)) (fun r s' => ∃ h', s' = { s with heap := h' } /\ r = some true /\ Heap.SameBut a s.heap h' /\ TabS h' a led (ns ++ [k])) E s := by
      refine wpAny_bind (wpAny_storeSet_of ho hd ?_ (by rw [sizeLine_eq]; omega))
      have g1 : (s.heap.update a (Obj.putSet es1 t1)).get? a = some { o with data := .set es1 (ep + 1) t1 } := by
        have := Heap.get?_update_self (Obj.putSet es1 t1) ho (by rw [putSet_of es1 t1 hd]; rfl)
        rw [putSet_of es1 t1 hd] at this; exact this
      have sb1 := Heap.SameBut.update s.heap a (Obj.putSet es1 t1)
      by_cases c : (!wd && t1.tooFull) = true
      · rw [if_pos c] at ad ⊢
        have rp := relayAll_perm t1 es1 (SetTable.grown es1.size)
        have rf := relayAll_fits t1 es1 (SetTable.grown es1.size)
        generalize hR : relayAll t1 es1 (SetTable.grown es1.size) = R at rp rf ad ⊢
        obtain ⟨es2, t2, g2⟩ := R
        dsimp only at rp rf ad ⊢
        have z2 : es2.size = ns.length + 1 := by rw [<- Array.length_toList, rp.length_eq, Array.length_toList, z1]
        refine wpAny_bind (gw _ (wpAny_bind (wpAny_storeSet_of g1 rfl ?_ (by rw [sizeLine_eq]; omega))))
        have g3 : ((s.heap.update a (Obj.putSet es1 t1)).update a (Obj.putSet es2 t2)).get? a = some { o with data := .set es2 (ep + 1 + 1) t2 } := by
          have := Heap.get?_update_self (Obj.putSet es2 t2) g1 (by rw [putSet_of es2 t2 rfl]; rfl)
          rw [putSet_of es2 t2 rfl] at this; exact this
        refine wpAny_pure ⟨_, rfl, rfl, sb1.trans (Heap.SameBut.update _ a _), _, es2, ep + 1 + 1, t2, g3, hex, rfl, ?_, ?_, fun e he => hel1 e (rp.mem_iff.mp he), (rp.map (·.1)).trans pm1, rf, by omega⟩
        · rw [tab_snoc, ta, ad]
        · rw [tab_snoc, ta, ad]
      · rw [if_neg c] at ad ⊢
        refine wpAny_pure ⟨_, rfl, rfl, sb1, _, es1, ep + 1, t1, g1, hex, rfl, ?_, ?_, hel1, pm1, lf, by omega⟩
        · rw [tab_snoc, ta, ad]
        · rw [tab_snoc, ta, ad]
    by_cases pl : t1.plain = true
    · rw [if_pos pl, hbv, pure_bind]
      simp only [if_true]
      refine wpAny_mono tail (fun r s' hr => ?_) fun _ _ x => x
      obtain ⟨h', rfl, rfl, sb, tb⟩ := hr
      exact wpAny_pure (q true h' sb (by rw [sd]; exact tb))
    · rw [if_neg pl, pure_bind]
      simp only [if_true]
      refine wpAny_mono tail (fun r s' hr => ?_) fun _ _ x => x
      obtain ⟨h', rfl, rfl, sb, tb⟩ := hr
      exact wpAny_pure (q true h' sb (by rw [sd]; exact tb))
end
section
variable {prog : Program} {w : World} {A : Around} {R : Result -> Shared -> Prop} {I : Addr} {fp wr : List Addr} {G : Array GenState -> Array GenState -> Prop} {n : Nat} {P : Nat -> Value -> Prop} {St : Nat -> Shared -> Prop}
theorem set_loop (Wk : WalksS prog w A.in1 I fp wr G n P St) (S : Addr) (nS : S ∉ fp) (led : Bool) (val : Nat -> Int) (hval : ∀ i v, P i v -> ∃ t, v = .int (val i) t) (small : ∀ i, i < n -> 0 <= val i /\ val i <= 8) (few : n < 80) :
    ∀ (k i : Nat) (s : Shared), n - i = k -> i <= n -> St i s -> TabS s.heap S led (firstMet val i) -> (∀ s', Moved (S :: wr) G s s' -> TabS s'.heap S led (firstMet val n) -> R (.ok (.ret .none)) s') ->
      codeAny (model prog w) A (.builtin "set.update.loop" ⟨[.ref S, .ref I], []⟩) R s := by
  have nw : S ∉ wr := fun z => nS (Wk.sub _ z)
  have up : ∀ b ∈ wr, b ∈ S :: wr := fun b hb => List.mem_cons_of_mem _ hb
  intro k
  induction k with
  | zero =>
    intro i s ek hi st tb q
    obtain rfl : i = n := by omega
    refine codeAny_builtin PyProof.Rows.F.entry_set_update_loop ?_
    rw [Around.under_plainId PyProof.Rows.F.plain_set_update_loop _]
    show wpAny _ A.in1 (pyNext (.ref I) >>= _) _ _ s
    refine wpAny_bind (Wk.done s _ _ st fun s' mv => ?_)
    show wpAny _ A.in1 (ret Value.none) _ _ s'
    exact wpAny_pure (q s' (mv.mono up) (tb.at fun o e => mv.heap S _ nw e))
  | succ k ih =>
    intro i s ek hi st tb q
    have lt : i < n := by omega
    refine codeAny_builtin PyProof.Rows.F.entry_set_update_loop ?_
    rw [Around.under_plainId PyProof.Rows.F.plain_set_update_loop _]
    show wpAny _ A.in1 (pyNext (.ref I) >>= _) _ _ s
    refine wpAny_bind (Wk.item i s _ _ lt st fun v s' hP st' mv => ?_)
    obtain ⟨t, rfl⟩ := hval i v hP
    have tb' : TabS s'.heap S led (firstMet val i) := tb.at fun o e => mv.heap S _ nw e
    show wpAny _ A.in1 (holding [Value.int (val i) t] (setAdd S (.int (val i) t)) >>= _) _ _ s'
    refine wpAny_bind (wpAny_holding ?_)
    unfold setAdd
    refine wpAny_holding (wpAny_bind ((intKind prog w).pyHash (k := val i) (intKind_is _ _ _ _) ?_))
    refine add_tab (s := { s' with toks := s'.toks + 1 }) tb' (small i lt).1 (small i lt).2 (by have := firstMet_length_le val i; omega) fun b h' sb tb2 => ?_
    rw [<- firstMet_succ] at tb2
    refine wpAny_pure ⟨plainId_quiet PyProof.Rows.F.plain_set_update_loop _, ih (i + 1) _ (by omega) lt (Wk.frame _ s' _ _ st' (Nat.le_succ _) fun b hb o e => ?_) tb2 fun s2 mv2 tb3 => ?_⟩
    · rw [sb.2 b (fun z : b = S => nS (by rw [<- z]; exact hb))]; exact e
    · refine q s2 (Moved.trans Wk.gtrans ((mv.mono up).then_heap (Nat.le_succ _) fun b o hb e => ?_) mv2) tb3
      rw [sb.2 b (fun z : b = S => hb (by rw [z]; exact List.mem_cons_self))]; exact e
end
section
variable {prog : Program} {w : World} {A : Around} {E : Value -> Shared -> Prop} {s : Shared}
theorem code_new_led (a : Value) {Q₁ : Value -> Shared -> Prop}
    (h : Q₁ (.ref s.heap.objs.size) { s with heap := s.heap.push { cls := .type "set", dict := none, data := .set #[] 0 (.fresh 0 0 (!w.params.followText "set-order")) } }) :
    codeAny (model prog w) A (.call (.builtin "set.__new__") ⟨[.type "set", a], []⟩) (wants Q₁ E) s := by
  refine codeAny_of_tree (show wpAny _ A.in1 (do checkBuiltinCall "set.__new__" ⟨[.type "set", a], []⟩; again (.builtin "set.__new__" ⟨[.type "set", a], []⟩)) _ _ s from ?_)
  refine wpAny_bind (wpAny_of_eq (F.newCall_set_1 a) (wpAny_pure ⟨plainId_quiet F.plain_set_new _, codeAny_builtin F.entry_set_new ?_⟩))
  rw [Around.under_plainId F.plain_set_new _]
  unfold Builtin.«set.__new__» Builtin.Frozenset.newClass
  have f1 := sub_set_self
  obtain ⟨hp, g, d, tk, os⟩ := s
  dsimp only
  wp_walk
  refine wpAny_askSetting (wpAny_pure ?_)
  dsimp only
  simp only [newObj]
  exact wpAny_bind (wpAny_alloc (wpAny_pure (wpAny_pure h)))
set_option maxHeartbeats 8000000 in
theorem call_set_told {l : Addr} {its : Array Value} {ns : List Int} {Q : Value -> Shared -> Prop} (hh : A.handled = none) (hl : s.heap.IsList l its) (hi : PyProof.Rows.IntsAre its.toList ns) (few : its.size < 80) (small : ∀ n ∈ ns, 0 <= n /\ n <= 8)
    (q : ∀ (h' : Heap) (tk : Nat), TabS h' s.heap.objs.size (!w.params.followText "set-order") (firstMet (fun i => ns.getD i 0) its.size) -> (∀ b o, b < s.heap.objs.size -> s.heap.get? b = some o -> h'.get? b = some o) -> Q (.ref s.heap.objs.size) { s with heap := h', toks := tk }) :
    wpAny (model prog w) A (call (.type "set") [.ref l]) Q E s := by
  obtain ⟨mc, mt, hmro⟩ := F.called_set.mro
  have f1 := F.called_set.made
  have f2 := F.called_set.sub
  have f3 := F.called_set.notType
  have f4 := F.called_set.canCreate
  have f5 := F.typeCall_set_1 (.ref l)
  refine wpAny_call (codeAny_of_tree (show wpAny _ _ (callAny (.type "set") _) _ _ _ from wpAny_pure ⟨Code.quiet_builtin _ (by decide +kernel), codeAny_builtin F.entry_type_call ?_⟩))
  rw [Around.under_plain (weight_type_call_type "set" [.ref l] []) rfl]
  repeat (any_goals (first | assumption | wp_step))
  generalize hled : (!w.params.followText "set-order") = led at q
  have nw : codeAny (model prog w) A.in1 (.call (.builtin "set.__new__") ⟨[.type "set", .ref l], []⟩) (wants (fun obj s₁ => obj = .ref s.heap.objs.size /\ s₁ = { s with heap := s.heap.push { cls := .type "set", dict := none, data := .set #[] 0 (.fresh 0 0 led) } }) E) s := code_new_led (.ref l) (by rw [hled]; exact ⟨rfl, rfl⟩)
  refine codeAny_mono nw fun r s₁ hr => ?_
  cases r with
  | error e => exact hr
  | ok fl =>
    cases fl with
    | ret obj =>
      obtain ⟨rfl, rfl⟩ := hr
      have gS : (s.heap.push { cls := .type "set", dict := none, data := .set #[] 0 (.fresh 0 0 led) }).get? s.heap.objs.size = some { cls := .type "set", dict := none, data := .set #[] 0 (.fresh 0 0 led) } := Heap.get?_push_size _ rfl
      have ty : Shared.TypeIs { s with heap := s.heap.push { cls := .type "set", dict := none, data := .set #[] 0 (.fresh 0 0 led) } } (.ref s.heap.objs.size) "set" := ⟨_, gS, rfl⟩
      have f6 := F.called_set.init.lookup
      have f7 := F.called_set.init.bind (.ref s.heap.objs.size)
      repeat (any_goals (first | assumption | wp_step))
      refine codeAny_mono (codeAny_call_builtin (R := wants (fun r s₂ => r = .none /\ ∃ h' tk, s₂ = { s with heap := h', toks := tk } /\ TabS h' s.heap.objs.size led (firstMet (fun i => ns.getD i 0) its.size) /\ (∀ b o, b < s.heap.objs.size -> s.heap.get? b = some o -> h'.get? b = some o)) E) F.called_set.init.plain F.entry_set_init (check_set_init_1 ty ?_)) fun r2 s2 hr2 => ?_
      · obtain ⟨⟨oc, od, odt, osl⟩, gl, c1, nl, c2⟩ := id hl
        simp only at c1 c2
        subst c1
        subst c2
        have gl' : (s.heap.push { cls := .type "set", dict := none, data := .set #[] 0 (.fresh 0 0 led) }).get? l = some { cls := .type "list", dict := od, data := .seq its nl, slots := osl } := Heap.get?_push_of_some _ gl
        have g1 := F.sub_list_set
        have g2 := F.sub_list_frozenset
        have g3 : (Value.type "list" == Value.type "dict") = false := by decide
        have hl1 : (s.heap.push { cls := .type "set", dict := none, data := .set #[] 0 (.fresh 0 0 led) }).IsList l its := ⟨_, gl', rfl, nl, rfl⟩
        unfold Builtin.«set.__init__» noKeywords Builtin.Frozenset.updateFrom
        generalize hPI : pyIter = PI
        wp_walk
        subst hPI
        refine wpAny_pyIter_list hl1 (wpAny_bind (wpAny_runValue ?_))
        have ll : l < s.heap.objs.size := Heap.lt_size gl
        have sz1 : (s.heap.push { cls := .type "set", dict := none, data := .set #[] 0 (.fresh 0 0 led) }).objs.size = s.heap.objs.size + 1 := Heap.size_push ..
        have hh3 : A.in1.in1.in1.handled = none := by simp [hh]
        have n1 : l ≠ (s.heap.push { cls := .type "set", dict := none, data := .set #[] 0 (.fresh 0 0 led) }).objs.size := by rw [sz1]; exact Nat.ne_of_lt (Nat.lt_succ_of_lt ll)
        have n2 : s.heap.objs.size ∉ [(s.heap.push { cls := .type "set", dict := none, data := .set #[] 0 (.fresh 0 0 led) }).objs.size, l] := by
          rw [sz1]
          intro z
          rcases List.mem_cons.mp z with z | z
          · exact Nat.ne_of_lt (Nat.lt_succ_self _) z
          · exact Nat.ne_of_gt ll (List.mem_singleton.mp z)
        have nl2 : its.size = ns.length := by have := hi.length; simpa using this
        refine set_loop ((Walks.list hh3 _ l n1 its).toS) s.heap.objs.size n2 led (fun i => ns.getD i 0) (fun i v hv => PyProof.Rows.IntsAre.int_at hi i v (by rw [Array.getElem?_toList]; exact hv)) (fun i hi' => small _ (by
            have : i < ns.length := by omega
            rw [List.getD_eq_getElem?_getD, List.getElem?_eq_getElem this]
            exact List.getElem_mem this)) few (its.size - 0) 0 _ (by omega) (Nat.zero_le _) ⟨⟨_, Heap.get?_push_size _ rfl, rfl, rfl⟩, (hl1.push _)⟩ (TabS.fresh (Heap.get?_push_of_some _ gS)) ?_
        intro s' mv tb
        obtain ⟨h', g', d', tk', os'⟩ := s'
        have e1 : g' = s.gens := mv.gens
        have e2 : d' = s.drawn := mv.drawn
        have e3 : os' = s.os := mv.os
        subst e1 e2 e3
        refine wpAny_pure (show wpAny _ _ (ret Value.none) _ _ _ from wpAny_pure ⟨rfl, h', tk', rfl, tb, fun b o hb e => ?_⟩)
        refine mv.heap b o (fun z => ?_) (Heap.get?_push_of_some _ (Heap.get?_push_of_some _ e))
        rcases List.mem_cons.mp z with z | z
        · exact Nat.ne_of_lt hb z
        · rw [List.mem_singleton.mp z, sz1] at hb
          exact absurd hb (Nat.not_lt.mpr (Nat.le_succ _))
      · cases r2 with
        | error e => exact hr2
        | ok fl2 =>
          cases fl2 with
          | ret r =>
            obtain ⟨rfl, h', tk, rfl, tb, kk⟩ := hr2
            repeat (any_goals (first | assumption | wp_step))
            exact q _ _ tb kk
          | next => exact hr2
          | brk => exact hr2
          | cont => exact hr2
    | next => exact hr
    | brk => exact hr
    | cont => exact hr
end
theorem entry_set_iter : entryFor table "set.__iter__" = some Builtin.«frozenset.__iter__» :=
  entryFor_alias (id' := "frozenset.__iter__") (by kernel_rfl) (by first | rfl | decide +kernel) (by decide +kernel) (by kernel_rfl)
theorem slot_si_next : Slot "set_iterator" "__next__" "set_iterator.__next__" :=
  .of (owner := "set_iterator") (n := "__next__") (by rw [typeLookup_type, builtinLookup_eq_fast]; kernel_rfl) (by decide +kernel) (by decide +kernel) (by decide +kernel) (by first | exact .inl (by decide +kernel) | exact .inr (by decide +kernel)) (by rw [isSubtype_type]; kernel_rfl)
theorem entry_si_next : entryFor table "set_iterator.__next__" = some Builtin.«set_iterator.__next__» := entryFor_of_tree (by kernel_rfl)
theorem args_si_next (a : Value) : argsOk "set_iterator.__next__" ⟨[a], []⟩ := by unfold argsOk; kernel_rfl
theorem slot_si_iter : Slot "set_iterator" "__iter__" "set_iterator.__iter__" :=
  .of (owner := "set_iterator") (n := "__iter__") (by rw [typeLookup_type, builtinLookup_eq_fast]; kernel_rfl) (by decide +kernel) (by decide +kernel) (by decide +kernel) (by first | exact .inl (by decide +kernel) | exact .inr (by decide +kernel)) (by rw [isSubtype_type]; kernel_rfl)
theorem args_si_iter (a : Value) : argsOk "set_iterator.__iter__" ⟨[a], []⟩ := by unfold argsOk; kernel_rfl
theorem entry_si_iter : entryFor table "set_iterator.__iter__" = some Builtin.«dict_keyiterator.__iter__» :=
  entryFor_alias (id' := "dict_keyiterator.__iter__") (by kernel_rfl) (by first | rfl | decide +kernel | (unfold String.splitOn; simp +decide [String.splitOnAux])) (by decide +kernel) (by kernel_rfl)
abbrev setIt (slot i : Int) (a : Addr) (n ep : Nat) : Obj := { cls := .type "set_iterator", data := .fields #[rawInt slot, rawInt i, .ref a, rawInt n, rawInt ep] }
def slotAt (t : SetTable) (i : Nat) : Nat := if i = 0 then 0 else t.place.getD (i - 1) 0 + 1
def goesOn (t : SetTable) (n : Nat) : Bool := t.plain && t.led && (t.place.size == n) && (List.range (n + 1)).all fun i => SetTable.below t.place (slotAt t i) == i
section
variable {prog : Program} {w : World} {A : Around} {E : Value -> Shared -> Prop} {s : Shared} {it a : Addr} {o : Obj} {es : Array (Int × Value)} {ep i : Nat} {t : SetTable} {slot : Nat}
theorem byText_ {Q : Bool -> Shared -> Prop} (h : Q (w.params.followText "set-order") s) : wpAny (model prog w) A setsByText Q E s := by
  unfold setsByText
  exact wpAny_bind (wpAny_askSetting (wpAny_pure h))
theorem drawn_no {Q : Bool -> Shared -> Prop} (ho : s.heap.get? a = some o) (hd : o.data = .set es ep t) (hf : t.fits es.size = true) (g : w.params.followText "set-order" = false -> goesOn t es.size = true) (h : Q false s) : wpAny (model prog w) A (setDrawn a) Q E s := by
  unfold setDrawn
  refine wpAny_bind (wpAny_setState_of ho hd hf (wpAny_bind (byText_ (wpAny_pure ?_))))
  cases e : w.params.followText "set-order" with
  | true => exact h
  | false =>
    have pl : t.plain = true := by
      have := g e
      unfold goesOn at this
      simp only [Bool.and_eq_true] at this
      exact this.1.1.1
    show Q (!false && (!t.plain && decide (es.size > 1))) s
    rw [pl]
    exact h
theorem iter_set {Q : Value -> Shared -> Prop} (ho : s.heap.get? a = some o) (hex : o.ExactSet) (hd : o.data = .set es ep t) (hf : t.fits es.size = true) (g : w.params.followText "set-order" = false -> goesOn t es.size = true)
    (q : Q (.ref s.heap.objs.size) { s with heap := s.heap.push (setIt 0 0 a es.size ep) }) : wpAny (model prog w) A (pyIter (.ref a)) Q E s := by
  have ty : s.TypeIs (.ref a) "set" := ⟨o, ho, hex.1⟩
  refine wpAny_pyIter_slot ty F.slot_set_iter (wpAny_call_entry F.slot_set_iter ty entry_set_iter ?_ (F.args_set_iter_1 _))
  unfold Builtin.«frozenset.__iter__»
  refine wpAny_bind (wpAny_of_eq (a := a) rfl (wpAny_bind ?_))
  unfold Builtin.Frozenset.sizeOf setEntries
  refine wpAny_bind (wpAny_bind (wpAny_setState_of ho hd hf (wpAny_pure (wpAny_pure (wpAny_bind (drawn_no ho hd hf g ?_))))))
  simp only [Bool.false_eq_true, if_false]
  refine wpAny_bind (wpAny_pure (wpAny_bind (wpAny_setEpoch_of ho hd hf (wpAny_bind ?_))))
  unfold newFields
  refine wpAny_newObj_type (wpAny_pure ⟨_, rfl, "set_iterator", _, ⟨_, Heap.get?_push_size _ rfl, rfl⟩, slot_si_next.lookup, ?_⟩) (by size_fits)
  exact q
end
def ordOf (w : World) (a : Addr) (ep : Nat) (es : Array (Int × Value)) : Array (Int × Value) := if w.params.followText "set-order" = true then pickOrder (w.params.setOrder a ep) es else es
theorem goes_at {t : SetTable} {n i : Nat} (h : goesOn t n = true) (hi : i <= n) : t.plain = true /\ t.led = true /\ t.place.size = n /\ SetTable.below t.place (slotAt t i) = i := by
  unfold goesOn at h
  simp only [Bool.and_eq_true, beq_iff_eq, List.all_eq_true] at h
  exact ⟨h.1.1.1, h.1.1.2, h.1.2, h.2 i (List.mem_range.mpr (by omega))⟩
section
variable {prog : Program} {w : World} {A : Around} {E : Value -> Shared -> Prop} {s : Shared} {it a : Addr} {o : Obj} {es : Array (Int × Value)} {ep i : Nat} {t : SetTable} {slot : Nat}
theorem setNext_ {Q : Option (Value × Nat) -> Shared -> Prop} (ho : s.heap.get? a = some o) (hd : o.data = .set es ep t) (hf : t.fits es.size = true) (g : w.params.followText "set-order" = false -> goesOn t es.size = true /\ slot = slotAt t i) (hi : i <= es.size)
    (q : ∀ nx, (w.params.followText "set-order" = false -> i < es.size -> nx = slotAt t (i + 1)) -> Q (((ordOf w a ep es)[i]?).map fun e => (e.2, nx)) s) : wpAny (model prog w) A (setNext a slot i ep) Q E s := by
  unfold setNext
  refine wpAny_bind (wpAny_setState_of ho hd hf (wpAny_bind (byText_ ?_)))
  unfold ordOf at q
  cases e : w.params.followText "set-order" with
  | true =>
    rw [e] at q
    simp only [if_true] at q ⊢
    rw [if_neg (by simp)]
    unfold setWalk
    refine wpAny_bind (wpAny_bind (wpAny_setState_of ho hd hf (wpAny_bind (byText_ ?_))))
    rw [e]
    simp only [if_true]
    refine wpAny_bind (wpAny_askSetting (wpAny_pure (wpAny_pure ?_)))
    exact q slot (fun z => nomatch z)
  | false =>
    obtain ⟨gg, es1⟩ := g e
    obtain ⟨p1, p2, p3, p4⟩ := goes_at gg hi
    rw [e] at q
    simp only [Bool.false_eq_true, if_false] at q ⊢
    refine wpAny_ite_split (fun hab => absurd (show (!t.plain && decide (es.size > 1)) = true from hab) (by rw [p1]; simp)) (fun _ => ?_)
    refine wpAny_bind (show wpAny _ _ (if (!t.led && !es.isEmpty) = true then unsupported "set:maker-not-led" else pure ()) _ _ _ from ?_)
    rw [p2, if_neg (by simp)]
    refine wpAny_pure (wpAny_pure ?_)
    rw [es1, p4]
    by_cases lt : i < es.size
    · have e1 : es[i]? = some es[i] := Array.getElem?_eq_getElem lt
      have e2 : t.place[i]? = some t.place[i] := Array.getElem?_eq_getElem (by omega)
      have e3 : t.place.getD i 0 = t.place[i] := by simp [Array.getD, show i < t.place.size by omega]
      have := q (slotAt t (i + 1)) (fun _ _ => rfl)
      rw [e1] at this ⊢
      rw [e2]
      have e4 : slotAt t (i + 1) = t.place[i] + 1 := by
        unfold slotAt
        rw [if_neg (by omega), Nat.add_sub_cancel, e3]
      rw [e4] at this
      exact this
    · have e1 : es[i]? = none := Array.getElem?_eq_none (by omega)
      have := q 0 (fun _ z => absurd z lt)
      rw [e1] at this ⊢
      exact this
theorem next_set {e : Int × Value} {Q : Option Value -> Shared -> Prop} (hit : s.heap.get? it = some (setIt slot i a es.size ep)) (ho : s.heap.get? a = some o) (hd : o.data = .set es ep t) (hf : t.fits es.size = true)
    (g : w.params.followText "set-order" = false -> goesOn t es.size = true /\ slot = slotAt t i) (hi : i < es.size) (hx : (ordOf w a ep es)[i]? = some e)
    (q : ∀ nx h', (w.params.followText "set-order" = false -> nx = slotAt t (i + 1)) -> h'.get? it = some (setIt (nx : Nat) ((i + 1 : Nat) : Int) a es.size ep) -> Heap.SameBut it s.heap h' -> Q (some e.2) { s with heap := h' }) : wpAny (model prog w) A (pyNext (.ref it)) Q E s := by
  have ty : s.TypeIs (.ref it) "set_iterator" := ⟨_, hit, rfl⟩
  unfold pyNext
  refine wpAny_bind (wpAny_attempt (wpAny_callSpecial?_slot (name := Str.ofString "__next__") ty slot_si_next (wpAny_call_entry slot_si_next ty entry_si_next ?_ (args_si_next _))))
  unfold Builtin.«set_iterator.__next__»
  refine wpAny_bind (wpAny_of_eq (a := (Value.ref it, [])) rfl (wpAny_bind (wpAny_fieldsOf hit rfl ?_)))
  show wpAny _ _ (setEntries a >>= _) _ _ s
  unfold setEntries
  refine wpAny_bind (wpAny_bind (wpAny_setState_of ho hd hf (wpAny_pure ?_)))
  rw [if_neg (by simp)]
  show wpAny _ _ (setNext a (slot : Int).toNat (i : Int).toNat (ep : Int).toNat >>= _) _ _ s
  simp only [Int.toNat_natCast]
  refine wpAny_bind (setNext_ ho hd hf g (by omega) fun nx hnx => ?_)
  rw [hx]
  simp only [Option.map_some]
  refine wpAny_bind (wpAny_setField_rec hit (by simp) fun h1 e1 b1 => ?_)
  replace b1 : Heap.SameBut it s.heap h1 := b1
  replace e1 : h1.get? it = some (setIt (nx : Nat) i a es.size ep) := e1
  refine wpAny_bind (wpAny_setField_rec (s := { s with heap := h1 }) e1 (by simp) fun h2 e2 b2 => ?_)
  replace b2 : Heap.SameBut it h1 h2 := b2
  replace e2 : h2.get? it = some (setIt (nx : Nat) ((i : Int) + 1) a es.size ep) := e2
  exact wpAny_pure ⟨_, rfl, wpAny_pure (q nx h2 (fun z => hnx z hi) (by rw [show ((i + 1 : Nat) : Int) = (i : Int) + 1 by omega]; exact e2) (b1.trans b2))⟩
theorem end_set {Q : Option Value -> Shared -> Prop} (hh : A.handled = none) (hit : s.heap.get? it = some (setIt slot i a es.size ep)) (ho : s.heap.get? a = some o) (hd : o.data = .set es ep t) (hf : t.fits es.size = true)
    (g : w.params.followText "set-order" = false -> goesOn t es.size = true /\ slot = slotAt t i) (hi : i = es.size) (hx : (ordOf w a ep es)[i]? = none)
    (q : ∀ h', Heap.ExtBut it s.heap h' -> Q none { s with heap := h' }) : wpAny (model prog w) A (pyNext (.ref it)) Q E s := by
  have ty : s.TypeIs (.ref it) "set_iterator" := ⟨_, hit, rfl⟩
  unfold pyNext
  refine wpAny_bind (wpAny_attempt (wpAny_callSpecial?_slot (name := Str.ofString "__next__") ty slot_si_next (wpAny_call_entry slot_si_next ty entry_si_next ?_ (args_si_next _))))
  unfold Builtin.«set_iterator.__next__»
  refine wpAny_bind (wpAny_of_eq (a := (Value.ref it, [])) rfl (wpAny_bind (wpAny_fieldsOf hit rfl ?_)))
  show wpAny _ _ (setEntries a >>= _) _ _ s
  unfold setEntries
  refine wpAny_bind (wpAny_bind (wpAny_setState_of ho hd hf (wpAny_pure ?_)))
  rw [if_neg (by simp)]
  show wpAny _ _ (setNext a (slot : Int).toNat (i : Int).toNat (ep : Int).toNat >>= _) _ _ s
  simp only [Int.toNat_natCast]
  refine wpAny_bind (setNext_ ho hd hf g (by omega) fun nx hnx => ?_)
  rw [hx]
  simp only [Option.map_none]
  show wpAny _ _ (setField (.ref it) 2 .none >>= _) _ _ s
  refine wpAny_bind (wpAny_setField hit rfl (by simp) ?_)
  show wpAny _ _ (newExc (.type "StopIteration") [] >>= _) _ _ _
  refine wpAny_bind ?_
  simp only [newExc, newTuple]
  refine wpAny_bind (wpAny_newObj_type (wpAny_bind (m := firstArgMember _ _) (wpAny_of_eq (a := Value.none) (by first | rfl | (simp only [firstArgMember]; rfl)) (wpAny_newObj_type ?_ (by size_fits)))) (by size_fits))
  simp only [raiseNew]
  refine wpAny_bind (wpAny_handled ?_)
  rw [show A.in1.handled = none from hh]
  refine wpAny_bind (wpAny_pure (wpAny_throw ?_))
  exact wpAny_bind (wpAny_isInstance (T := "StopIteration") (b := true) ⟨_, Heap.get?_push_size _ rfl, rfl⟩ isSubtype_stop (wpAny_pure (q _ (((Heap.SameBut.update ..).extBut.push _).push _))))
theorem self_set {Q : Value -> Shared -> Prop} (hit : s.heap.get? it = some (setIt slot i a es.size ep)) (h : Q (.ref it) s) : wpAny (model prog w) A (pyIter (.ref it)) Q E s := by
  have ty : s.TypeIs (.ref it) "set_iterator" := ⟨_, hit, rfl⟩
  refine wpAny_pyIter_slot ty slot_si_iter (wpAny_call_entry slot_si_iter ty entry_si_iter ?_ (args_si_iter _))
  show wpAny _ _ (ret (.ref it)) _ _ s
  exact wpAny_pure ⟨_, rfl, "set_iterator", _, ty, slot_si_next.lookup, h⟩
end
theorem pick_go {α : Type} (next : Nat -> Nat) : ∀ (f k : Nat) (l : List α) (out : Array α), f = l.length -> (pickOrder.go next f k l out).toList.Perm (out.toList ++ l)
  | 0, _, l, out, h => by
    have : l = [] := List.eq_nil_of_length_eq_zero h.symm
    subst this
    simp [pickOrder.go]
  | f + 1, k, l, out, h => by
    unfold pickOrder.go
    have pos : 0 < l.length := by omega
    have lt : next k % l.length < l.length := Nat.mod_lt _ pos
    rw [List.getElem?_eq_getElem lt]
    dsimp only
    refine (pick_go next f (k + 1) _ _ (by rw [List.length_eraseIdx, if_pos lt]; omega)).trans ?_
    rw [Array.toList_push, List.append_assoc]
    refine List.Perm.append_left _ ?_
    show (l[next k % l.length] :: l.eraseIdx (next k % l.length)).Perm l
    generalize next k % l.length = j at lt
    have e1 : l.eraseIdx j = l.take j ++ l.drop (j + 1) := List.eraseIdx_eq_take_drop_succ l j
    have e2 : l = l.take j ++ l[j] :: l.drop (j + 1) := by rw [List.getElem_cons_drop]; exact (List.take_append_drop j l).symm
    rw [e1]
    refine List.Perm.trans ?_ (List.Perm.of_eq e2.symm)
    exact List.perm_middle.symm
theorem ord_perm (w : World) (a : Addr) (ep : Nat) (es : Array (Int × Value)) : (ordOf w a ep es).toList.Perm es.toList := by
  unfold ordOf
  split
  · unfold pickOrder
    have := pick_go (w.params.setOrder a ep) es.size 0 es.toList #[] (by simp)
    simpa using this
  · exact List.Perm.refl _
theorem ord_size (w : World) (a : Addr) (ep : Nat) (es : Array (Int × Value)) : (ordOf w a ep es).size = es.size := by have := (ord_perm w a ep es).length_eq; simpa using this
theorem Walks.setW {prog : Program} {w : World} {A : Around} (hh : A.handled = none) (I a : Addr) (ne : a ≠ I) {o : Obj} {es : Array (Int × Value)} {ep : Nat} {t : SetTable} (hd : o.data = .set es ep t) (hf : t.fits es.size = true) (g : w.params.followText "set-order" = false -> goesOn t es.size = true) :
    Walks prog w A I [I, a] [I] es.size (fun i v => ((ordOf w a ep es)[i]?).map (·.2) = some v) (fun i h => i <= es.size /\ (∃ slot : Nat, h.get? I = some (setIt slot i a es.size ep) /\ (w.params.followText "set-order" = false -> slot = slotAt t i)) /\ h.get? a = some o) where
  sub := fun b hb => by simp at hb; simp [hb]
  frame := fun _ _ _ x hk => ⟨x.1, let ⟨sl, e, r⟩ := x.2.1; ⟨sl, hk I (by simp) _ e, r⟩, hk a (by simp) _ x.2.2⟩
  item := fun i s Q E hi x q => by
    obtain ⟨_, ⟨sl, hit, hs⟩, ho⟩ := x
    have e : (ordOf w a ep es)[i]? = some ((ordOf w a ep es)[i]'(by rw [ord_size]; exact hi)) := Array.getElem?_eq_getElem _
    refine next_set hit ho hd hf (fun z => ⟨g z, hs z⟩) hi e fun nx h' hn hit' sb => ?_
    exact q _ h' s.toks (by rw [e]; rfl) ⟨hi, ⟨nx, hit', hn⟩, (sb.2 a ne).trans ho⟩ fun b o hb eo => sb.extBut b o (fun z => hb (by simp [z])) eo
  done := fun s Q E x q => by
    obtain ⟨_, ⟨sl, hit, hs⟩, ho⟩ := x
    exact end_set hh hit ho hd hf (fun z => ⟨g z, hs z⟩) rfl (Array.getElem?_eq_none (by rw [ord_size]; exact Nat.le_refl _)) fun h' eb => q h' s.toks fun b o hb eo => eb b o (fun z => hb (by simp [z])) eo
  self := fun _ _ _ _ x q => let ⟨_, ⟨_, hit, _⟩, _⟩ := x; self_set hit q
section
variable {prog : Program} {w : World} {A : Around} {E : Value -> Shared -> Prop} {s : Shared} {a : Addr} {o : Obj} {es : Array (Int × Value)} {ep : Nat} {t : SetTable}
theorem lookup_set_len : typeLookup (.type "set") "__len__" = pure (some (.builtin "set.__len__")) := by rw [typeLookup_type, builtinLookup_eq_fast]; kernel_rfl
theorem hint_set {Q : Bool -> Shared -> Prop} (ty : s.TypeIs (.ref a) "set") (h : Q false s) : wpAny (model prog w) A (Builtin.List.listLengthHint (.ref a)) Q E s := by
  unfold Builtin.List.listLengthHint
  refine wpAny_bind (wpAny_specialOf ty lookup_set_len ?_)
  generalize hid : ("set.__len__" : String) = id0
  wp_delta
  rw [show splitId id0 = some ("set", "__len__") from by subst hid; decide +kernel]
  subst hid
  refine wpAny_bind (wpAny_isInstance (T := "set") (b := true) ty (by rw [isSubtype_type]; kernel_rfl) ?_)
  refine wpAny_ite_split (fun hab => absurd hab (by decide)) (fun _ => ?_)
  refine wpAny_ite_split (fun _ => ?_) (fun hab => absurd (by decide +kernel) hab)
  refine wpAny_bind (wpAny_typeOf ty ?_)
  exact wpAny_pure h
theorem extend_set {R : Result -> Shared -> Prop} (hh : A.handled = none) (ho : s.heap.get? a = some o) (hex : o.ExactSet) (hd : o.data = .set es ep t) (hf : t.fits es.size = true) (g : w.params.followText "set-order" = false -> goesOn t es.size = true) (hz : es.size <= 1000)
    (S : Addr) (res : Value) (c : Nat) (hS : s.heap.get? S = some { cls := .type "list", data := .seq #[] c })
    (q : ∀ h' tk acc c', (∀ b o, b ≠ S -> s.heap.get? b = some o -> h'.get? b = some o) -> h'.get? S = some { cls := .type "list", dict := none, data := .seq acc c', slots := #[] } ->
      ItemsOf (fun i v => ((ordOf w a ep es)[i]?).map (·.2) = some v) acc es.size -> R (.ok (.ret res)) { s with heap := h', toks := tk }) :
    wpAny (model prog w) A.in1 (Builtin.List.listExtendWith (.ref S) (.ref a) res)
      (fun fin s' => match fin with | .done f => R (.ok f) s' | .again c' => c'.quiet = true /\ codeAny (model prog w) A c' R s') (fun e s' => R (.error e) s') s := by
  have ty : s.TypeIs (.ref a) "set" := ⟨o, ho, hex.1⟩
  have ni : S ≠ a := fun e => by
    rw [<- e, hS] at ho
    cases ho
    cases hd
  have la : a < s.heap.objs.size := Heap.lt_size ho
  have lS : S < s.heap.objs.size := Heap.lt_size hS
  have Wk := (Walks.setW (prog := prog) (w := w) (A := A.in1) hh s.heap.objs.size a (Nat.ne_of_lt la) hd hf g).toS
  have nS : S ∉ [s.heap.objs.size, a] := by
    intro z
    rcases List.mem_cons.mp z with z | z
    · exact Nat.ne_of_lt lS z
    · exact ni (List.mem_singleton.mp z)
  have key : ∀ (h : Heap) (c₁ tk : Nat), h.get? s.heap.objs.size = some (setIt 0 0 a es.size ep) -> (∀ b o, b ≠ S -> s.heap.get? b = some o -> h.get? b = some o) -> h.get? S = some { cls := .type "list", data := .seq #[] c₁ } ->
      codeAny (model prog w) A (.builtin "list.extend.loop" ⟨[.ref S, .ref s.heap.objs.size, res], []⟩) R { s with heap := h, toks := tk } := by
    intro h c₁ tk e1 e2 e3
    refine codeAny_extend_loopS Wk (by rw [sizeLine_eq]; omega) S nS res es.size 0 _ #[] c₁ rfl (Nat.zero_le _) ⟨Nat.zero_le _, ⟨0, e1, fun _ => rfl⟩, e2 a o (Ne.symm ni) ho⟩ e3 (ItemsOf.nil _) fun s' acc c' hm hS' hacc => ?_
    rw [Moved.eq_with hm]
    refine q s'.heap s'.toks acc c' (fun b o hb e => hm.heap b o (fun hmem => ?_) (e2 b o hb e)) hS' hacc
    rcases List.mem_cons.mp hmem with e' | hmem
    · exact hb e'
    · exact absurd (Heap.lt_size e) (by rw [List.mem_singleton.mp hmem]; exact Nat.lt_irrefl _)
  unfold Builtin.List.listExtendWith
  refine wpAny_bind (wpAny_typeOf (T := "set") ty ?_)
  simp only [show Builtin.List.listSameRef (.ref S) (.ref a) = false from by simp [Builtin.List.listSameRef, ni], show (Value.type "set" == Value.type "list") = false from by decide, show (Value.type "set" == Value.type "tuple") = false from by decide, Bool.or_false, Bool.false_eq_true, if_false]
  refine wpAny_bind (iter_set ho hex hd hf g (wpAny_bind (wpAny_holding (hint_set (s := { s with heap := s.heap.push (setIt 0 0 a es.size ep) }) ⟨o, Heap.get?_push_of_some _ ho, hex.1⟩ ?_))))
  have i1 : (s.heap.push (setIt 0 0 a es.size ep)).get? s.heap.objs.size = some (setIt 0 0 a es.size ep) := Heap.get?_push_size _ rfl
  have S1 := Heap.get?_push_of_some (setIt 0 0 a es.size ep) hS
  have nSi : S ≠ s.heap.objs.size := Nat.ne_of_lt lS
  refine wpAny_ite_split (fun _ => ?_) (fun hab => absurd (by decide) hab)
  refine wpAny_bind (wpAny_rule (wpAny_bind ?_))
  show wpAny _ _ (updateSeq S (·.push .none) >>= fun _ => updateSeq S (·.pop)) _ _ _
  refine wpAny_bind (wpAny_updateSeq S1 rfl ?_)
  have S2 := Heap.get?_update_self (Obj.mapSeq (·.push Value.none)) S1 rfl
  refine wpAny_updateSeq (hz := by seq_fits) S2 rfl ?_
  have S3 := Heap.get?_update_self (Obj.mapSeq (·.pop)) S2 rfl
  refine wpAny_pure ⟨plainId_quiet F.plain_extend_loop _, key _ _ _ ?_ (fun b o hb e => ?_) S3⟩
  · exact (Heap.get?_update_other _ _ nSi).trans ((Heap.get?_update_other _ _ nSi).trans i1)
  · exact (Heap.get?_update_other _ _ (Ne.symm hb)).trans ((Heap.get?_update_other _ _ (Ne.symm hb)).trans (Heap.get?_push_of_some _ e))
theorem code_collect_set {R : Result -> Shared -> Prop} (hh : A.handled = none) (ho : s.heap.get? a = some o) (hex : o.ExactSet) (hd : o.data = .set es ep t) (hf : t.fits es.size = true) (g : w.params.followText "set-order" = false -> goesOn t es.size = true) (hz : es.size <= 1000)
    (q : ∀ h' tk acc c', (∀ b o, s.heap.get? b = some o -> h'.get? b = some o) -> h'.get? s.heap.objs.size = some { cls := .type "list", dict := none, data := .seq acc c', slots := #[] } ->
      ItemsOf (fun i v => ((ordOf w a ep es)[i]?).map (·.2) = some v) acc es.size -> R (.ok (.ret (.ref s.heap.objs.size))) { s with heap := h', toks := tk }) : codeAny (model prog w) A (.builtin "proto.collect" ⟨[.ref a], []⟩) R s := by
  have nl : (s.heap.push { cls := .type "list", data := .seq ([] : List Value).toArray }).get? s.heap.objs.size = some { cls := .type "list", data := .seq ([] : List Value).toArray } := Heap.get?_push_size _ rfl
  refine codeAny_builtin PySem.F.entry_proto_collect ?_
  rw [Around.under_plainId PySem.F.plain_proto_collect _]
  show wpAny _ A.in1 (newList [] >>= fun l => again (.builtin "list.__iadd__" ⟨[l, .ref a], []⟩)) _ _ s
  refine wpAny_bind (wpAny_newObj_type (wpAny_pure ⟨plainId_quiet PySem.F.plain_list_iadd _, codeAny_builtin PySem.F.entry_list_iadd ?_⟩))
  rw [Around.under_plainId PySem.F.plain_list_iadd _]
  show wpAny _ A.in1 (Builtin.List.listExtendWith (.ref s.heap.objs.size) (.ref a) (.ref s.heap.objs.size)) _ _ _
  exact extend_set (R := R) (s := { s with heap := s.heap.push { cls := .type "list", data := .seq ([] : List Value).toArray } }) hh (Heap.get?_push_of_some _ ho) hex hd hf g hz s.heap.objs.size _ 0 nl fun h' tk acc c' hk hS' hacc => q h' tk acc c' (fun b o z => hk b o (Nat.ne_of_lt (Heap.lt_size z)) (Heap.get?_push_of_some _ z)) hS' hacc
theorem collect_set {Q : List Value -> Shared -> Prop} (hh : A.handled = none) (ho : s.heap.get? a = some o) (hex : o.ExactSet) (hd : o.data = .set es ep t) (hf : t.fits es.size = true) (g : w.params.followText "set-order" = false -> goesOn t es.size = true) (hz : es.size <= 1000)
    (q : ∀ h' tk, (∀ b o, s.heap.get? b = some o -> h'.get? b = some o) -> s.heap.objs.size < h'.objs.size -> Q ((ordOf w a ep es).toList.map (·.2)) { s with heap := h', toks := tk }) : wpAny (model prog w) A (collect (.ref a)) Q E s := by
  unfold collect
  refine wpAny_bind (wpAny_runValue (code_collect_set hh ho hex hd hf g hz fun h' tk acc c' hk hS' hacc => ?_))
  show wpAny _ A (load s.heap.objs.size >>= _) _ _ _
  refine wpAny_bind (wpAny_load hS' (wpAny_pure ?_))
  have e : acc.toList = (ordOf w a ep es).toList.map (·.2) := by
    apply List.ext_getElem?
    intro i
    by_cases c : i < es.size
    · have ia : i < acc.size := by rw [hacc.1]; exact c
      have e1 := hacc.2 i acc[i] (by simp [ia])
      have e2 : acc.toList[i]? = some acc[i] := by simp [ia]
      rw [e2, List.getElem?_map, Array.getElem?_toList, e1]
    · rw [List.getElem?_eq_none (by rw [Array.length_toList, hacc.1]; omega), List.getElem?_eq_none (by rw [List.length_map, Array.length_toList, ord_size]; omega)]
  rw [e]
  exact q h' tk hk (Heap.lt_size hS')
end
section
variable {prog : Program} {w : World} {A : Around} {E : Value -> Shared -> Prop} {s : Shared} {a : Addr}
theorem sorted_set {ns : List Int} {Q : Value -> Shared -> Prop} (hh : A.handled = none) (hS : TabS s.heap a (!w.params.followText "set-order") ns) (g : goesOn (tabOf true ns).2 ns.length = true) (h64 : ns.length < 64)
    (q : ∀ (h' : Heap) (tk : Nat) (l : Addr) (out : Array Value) (ms : List Int) (e : Nat), (∀ b o, s.heap.get? b = some o -> h'.get? b = some o) -> s.heap.objs.size <= l -> h'.get? l = some (seqObj "list" out e) -> IntsAre out.toList ms -> ms.Perm ns -> ms.Pairwise (· <= ·) -> Q (.ref l) { s with heap := h', toks := tk }) :
    wpAny (model prog w) A (call (.builtin "sorted") [.ref a]) Q E s := by
  obtain ⟨o, es, ep, t, ho, hex, hd, e1, e2, el, pm, hf, hz⟩ := hS
  have hsz : es.size = ns.length := by have := pm.length_eq; simpa using this
  have g' : w.params.followText "set-order" = false -> goesOn t es.size = true := fun z => by
    rw [z] at e2
    rw [e2, hsz]
    exact g
  refine Calls.call_function_entry kind_sorted plain_sorted entry_sorted (args_sorted1 _) ?_
  unfold Builtin.«sorted»
  refine wpAny_bind (m := checkCount "sorted" 1 1 _) (wpAny_pure (wpAny_bind (collect_set (by exact hh) ho hex hd hf g' (by lia) fun h1 tk k1 z1 => ?_)))
  have lv : ((ordOf w a ep es).toList.map (·.2)).length = ns.length := by rw [List.length_map, Array.length_toList, ord_size, hsz]
  have hI : IntsAre ((ordOf w a ep es).toList.map (·.2)) ((ordOf w a ep es).toList.map (·.1)) := by
    have all : ∀ e ∈ (ordOf w a ep es).toList, ∃ tk, e.2 = Value.int e.1 tk := fun e he => (el e ((ord_perm w a ep es).mem_iff.mp he)).1
    generalize (ordOf w a ep es).toList = L at all
    clear lv
    induction L with
    | nil => exact .nil
    | cons e r ih =>
      obtain ⟨tk, ee⟩ := all e List.mem_cons_self
      rw [List.map_cons, List.map_cons, ee]
      exact .cons _ _ (ih fun e he => all e (List.mem_cons_of_mem _ he))
  have pI : ((ordOf w a ep es).toList.map (·.1)).Perm ns := ((ord_perm w a ep es).map _).trans pm
  refine wpAny_bind (wpAny_newList ?_ (by rw [lv, sizeLine_eq]; lia))
  have oL : (h1.push (seqObj "list" ((ordOf w a ep es).toList.map (·.2)).toArray 0)).get? h1.objs.size = some (seqObj "list" ((ordOf w a ep es).toList.map (·.2)).toArray 0) := Heap.get?_push_size _ rfl
  refine wpAny_bind (wpAny_holding (wpAny_call_entry slot_list_sort ⟨_, oL, rfl⟩ entry_list_sort (list_sort_tree oL hI (by lia) fun out ms a1 a2 a3 => ⟨_, rfl, ?_⟩) (args_list_sort _)))
  obtain ⟨e, he⟩ := sortedHeap_at (out := out) oL
  refine wpAny_pure ⟨_, rfl, q _ _ _ out ms e (fun b o z => ?_) (Nat.le_of_lt z1) he a1 (a2.trans pI) a3⟩
  have lb := Heap.lt_size (k1 b o z)
  show (sortedHeap _ _ _ _).get? b = some o
  rw [sortedHeap_old (Nat.ne_of_lt lb) (by rw [size_push']; exact Nat.lt_succ_of_lt lb)]
  exact Heap.get?_push_of_some _ (k1 b o z)
end
section
variable {X : Cx}
def setO (w : World) (a : Addr) (ns : List Int) : HO := .ext fun h => TabS h a (!w.params.followText "set-order") ns
theorem call_setT (hc : X.calm = true) : CallR X (.type "set") (fun xs H Q => ∃ (p : Addr) (ns : List Int), xs = [.ref p] /\ SqL X.K H p (ns.map V.int) /\ ns.length < 80 /\ (∀ n ∈ ns, 0 <= n /\ n <= 8) /\ ∀ l, H l = none -> Q (.ref l) (upd H l (setO X.w l (firstMet (fun i => ns.getD i 0) ns.length)))) := by
  intro pins s σ H xs us Q I r h
  obtain ⟨p, ns, rfl, hp, hn, sm, q⟩ := h
  obtain ⟨u, rfl, ru⟩ := Vals.one r
  cases (show u = Value.ref p from ru)
  obtain ⟨its, r1, t1, _⟩ := I.list hp
  have hl : its.length = ns.length := by have := r1.length; rw [List.length_map] at this; lia
  refine call_set_told (I.ok.hd hc) t1.isList (by simpa using intsAre_V r1) (by rw [List.size_toArray]; lia) sm fun h' tk hS hk => ?_
  have hs : its.toArray.size = ns.length := by rw [List.size_toArray, hl]
  rw [hs] at hS
  refine ⟨.ref s.heap.objs.size, upd H s.heap.objs.size (setO X.w _ _), I.laid (fun b o e => hk b o (Heap.lt_size e) e) (Nat.le_refl _) ⟨hS, ?_, fun h1 h2 a b => a.at b⟩, rfl, q _ (I.hok.fresh (Nat.le_refl _))⟩
  obtain ⟨o, _, _, _, g, _⟩ := hS
  exact ⟨o, g⟩
theorem call_sortedS (hc : X.calm = true) : CallR X (.builtin "sorted") (fun xs H Q => ∃ (p : Addr) (ns : List Int), xs = [.ref p] /\ H p = some (setO X.w p ns) /\ ns.length < 64 /\ goesOn (tabOf true ns).2 ns.length = true /\ ∀ (l : Addr) (ms : List Int), ms.Perm ns -> ms.Pairwise (· <= ·) -> H l = none -> Q (.ref l) (upd H l (.lst (ms.map V.int)))) := by
  intro pins s σ H xs us Q I r h
  obtain ⟨p, ns, rfl, hp, hn, gg, q⟩ := h
  obtain ⟨u, rfl, ru⟩ := Vals.one r
  cases (show u = Value.ref p from ru)
  obtain ⟨hS, _, _⟩ := I.hok p _ hp
  refine sorted_set (I.ok.hd hc) hS gg hn fun h' tk l out ms e k fr he a1 a2 a3 => ?_
  refine ⟨.ref l, upd H l (.lst (ms.map V.int)), I.laid k fr ⟨?_, out.toList, e, vals_of_ints a1, by rw [he]⟩, rfl, q _ ms a2 a3 (I.hok.fresh fr)⟩
  rw [List.length_map, a2.length_eq]
  exact Nat.le_trans (Nat.le_of_lt hn) (by decide)
end
section
variable {prog : Program} {w : World} {A : Around} {E : Value -> Shared -> Prop} {s : Shared}
theorem collect_tup {l : Addr} {vs : List Value} {Q : List Value -> Shared -> Prop} (hl : IsTup s.heap l vs.toArray) (hsz : vs.length <= sizeLine)
    (h : Q vs { s with heap := (s.heap.push (seqObj "list" #[] 0)).update s.heap.objs.size (Obj.mapSeq (· ++ vs.toArray)) }) : wpAny (model prog w) A (collect (.ref l)) Q E s := by
  obtain ⟨o, ho, hc, n, hd⟩ := id hl
  unfold collect
  refine wpAny_bind (wpAny_runValue (codeAny_builtin entry_proto_collect' ?_))
  show wpAny _ _ (do again (.builtin "list.__iadd__" ⟨[<- newList [], .ref l], []⟩)) _ _ s
  refine wpAny_bind (wpAny_newList (wpAny_pure ⟨Code.quiet_builtin _ (by decide +kernel), codeAny_builtin entry_list_iadd' ?_⟩))
  show wpAny _ _ (Builtin.List.listExtendWith (.ref s.heap.objs.size) (.ref l) (.ref s.heap.objs.size)) _ _ { s with heap := s.heap.push (seqObj "list" #[] 0) }
  have ho' : (s.heap.push (seqObj "list" #[] 0)).get? l = some o := Heap.get?_push_of_some _ ho
  unfold Builtin.List.listExtendWith
  refine wpAny_bind (wpAny_typeOf (T := "tuple") ⟨o, ho', hc⟩ ?_)
  rw [if_pos (by rw [show (Value.type "tuple" == Value.type "tuple") = true from rfl]; simp)]
  refine wpAny_bind (listItems_at ho' hd (wpAny_bind (listItems_at (xs := #[]) (n := 0) (Heap.get?_push_size _ rfl) rfl ?_)))
  rw [if_neg (by simp)]
  refine wpAny_bind (listUpdate_at (xs := #[]) (n := 0) (Heap.get?_push_size _ rfl) rfl (wpAny_pure ?_) (Nat.zero_le _) (by show (#[] ++ vs.toArray).size <= sizeLine + 1; simp only [Array.size_append, List.size_toArray, List.length_nil]; omega))
  show wpAny (model prog w) A (load s.heap.objs.size >>= _) Q E { s with heap := (s.heap.push (seqObj "list" #[] 0)).update s.heap.objs.size (Obj.mapSeq (· ++ vs.toArray)) }
  refine wpAny_bind (wpAny_load (get?_update_seq (Heap.get?_push_size _ rfl) _) ?_)
  show wpAny _ _ (pure ((#[] : Array Value) ++ vs.toArray).toList) Q E _
  rw [show ((#[] : Array Value) ++ vs.toArray).toList = vs by simp]
  exact wpAny_pure h
theorem sorted_tup {l : Addr} {vs : List Value} {ns : List Int} {Q : Value -> Shared -> Prop} (hl : IsTup s.heap l vs.toArray) (hI : IntsAre vs ns) (h64 : vs.length < 64)
    (h : ∀ (out : Array Value) (ms : List Int), IntsAre out.toList ms -> ms.Perm ns -> ms.Pairwise (· <= ·) -> Q (.ref (s.heap.objs.size + 1)) { s with heap := sortedAll s.heap vs out }) :
    wpAny (model prog w) A (call (.builtin "sorted") [.ref l]) Q E s := by
  refine Calls.call_function_entry kind_sorted plain_sorted entry_sorted (args_sorted1 _) ?_
  unfold Builtin.«sorted»
  refine wpAny_bind (m := checkCount "sorted" 1 1 _) (wpAny_pure (wpAny_bind (collect_tup hl (by rw [sizeLine_eq]; omega) (wpAny_bind (wpAny_newList ?_ (by rw [sizeLine_eq]; omega))))))
  have z1 : ((s.heap.push (seqObj "list" #[] 0)).update s.heap.objs.size (Obj.mapSeq (· ++ vs.toArray))).objs.size = s.heap.objs.size + 1 := by rw [Heap.size_update, size_push']
  have oL : (((s.heap.push (seqObj "list" #[] 0)).update s.heap.objs.size (Obj.mapSeq (· ++ vs.toArray))).push (seqObj "list" vs.toArray 0)).get? (s.heap.objs.size + 1) = some (seqObj "list" vs.toArray 0) := by
    rw [<- z1]; exact Heap.get?_push_size _ rfl
  show wpAny _ _ _ _ _ { s with heap := ((s.heap.push (seqObj "list" #[] 0)).update s.heap.objs.size (Obj.mapSeq (· ++ vs.toArray))).push (seqObj "list" vs.toArray 0) }
  rw [z1]
  refine wpAny_bind (wpAny_holding (wpAny_call_entry slot_list_sort ⟨_, oL, rfl⟩ entry_list_sort (list_sort_tree oL hI h64 fun out ms a1 a2 a3 => ⟨_, rfl, ?_⟩) (args_list_sort _)))
  exact wpAny_pure ⟨_, rfl, h out ms a1 a2 a3⟩
end
section
variable {X : Cx}
theorem call_sortedTI : CallR X (.builtin "sorted") (fun xs H Q => ∃ (p : Addr) (ns : List Int), xs = [.ref p] /\ SqT X.K H p (ns.map V.int) /\ ns.length < 64 /\ ∀ (l : Addr) (ms : List Int), ms.Perm ns -> ms.Pairwise (· <= ·) -> H l = none -> Q (.ref l) (upd H l (.lst (ms.map V.int)))) := by
  intro pins s σ H xs us Q I r h
  obtain ⟨p, ns, rfl, hp, hn, q⟩ := h
  obtain ⟨u, rfl, ru⟩ := Vals.one r
  cases (show u = Value.ref p from ru)
  obtain ⟨its, r1, t1, _⟩ := I.tuple hp
  have hl : its.length = ns.length := by have := r1.length; rw [List.length_map] at this; omega
  refine sorted_tup t1 (intsAre_of r1) (by omega) fun out ms a1 a2 a3 => ?_
  obtain ⟨e, he⟩ := sortedAll_at s.heap its out
  have fr : s.heap.objs.size <= s.heap.objs.size + 1 := Nat.le_succ _
  refine ⟨.ref (s.heap.objs.size + 1), upd H (s.heap.objs.size + 1) (.lst (ms.map V.int)), I.laid (t' := s.toks) (fun b o z => sortedAll_old z) fr ?_, rfl, q _ ms a2 a3 (I.hok.fresh fr)⟩
  refine ⟨?_, out.toList, e, vals_of_ints a1, by rw [he]⟩
  rw [List.length_map, a2.length_eq]
  exact Nat.le_trans (Nat.le_of_lt hn) (by decide)
end
end L2
namespace L2
open PySem PySem.W PyProof.Rows
section
variable {prog : Program} {w : World} {A : Around} {E : Value -> Shared -> Prop} {s : Shared} {κ : SortKind} {it : Array Keyed} {lt : Nat -> Nat -> Bool} {N : Nat}
end
end L2
namespace L2
open PySem PySem.W PyProof.Rows
section
variable {lt : Nat -> Nat -> Bool}
end
section
variable {prog : Program} {w : World} {A : Around} {E : Value -> Shared -> Prop} {s : Shared} {κ : SortKind} {it : Array Keyed} {lt : Nat -> Nat -> Bool} {N : Nat}
end
end L2
namespace L2
open PySem PySem.W PyProof.Rows
section
variable {prog : Program} {w : World} {A : Around} {E : Value -> Shared -> Prop} {s : Shared} {κ : SortKind} {it : Array Keyed} {lt : Nat -> Nat -> Bool} {N : Nat}
end
end L2
namespace L2
open PySem PySem.W PyProof.Rows
section
variable {prog : Program} {w : World} {A : Around} {E : Value -> Shared -> Prop} {s : Shared} {κ : SortKind} {it : Array Keyed} {lt : Nat -> Nat -> Bool} {N : Nat}
end
end L2
namespace L2
open PySem PySem.W PyProof.Rows
section
variable {prog : Program} {w : World} {A : Around} {E : Value -> Shared -> Prop} {s : Shared} {κ : SortKind} {it : Array Keyed} {lt : Nat -> Nat -> Bool} {N : Nat}
end
end L2
namespace L2
open PySem PySem.W PyProof.Rows
section
variable {prog : Program} {w : World} {A : Around} {E : Value -> Shared -> Prop} {s : Shared} {κ : SortKind} {it : Array Keyed} {lt : Nat -> Nat -> Bool} {N : Nat}
end
end L2
namespace L2
open PySem PySem.W PyProof.Rows
section
variable {prog : Program} {w : World} {A : Around} {E : Value -> Shared -> Prop} {s : Shared} {κ : SortKind} {it : Array Keyed} {lt : Nat -> Nat -> Bool} {N : Nat}
end
end L2
namespace L2
open PySem PySem.W PyProof.Rows
section
variable {prog : Program} {w : World} {A : Around} {E : Value -> Shared -> Prop} {s : Shared} {κ : SortKind} {it : Array Keyed} {lt : Nat -> Nat -> Bool} {N : Nat}
end
end L2
namespace L2
open PySem PySem.W PyProof.Rows
section
variable {prog : Program} {w : World} {A : Around} {E : Value -> Shared -> Prop} {s : Shared} {κ : SortKind} {it : Array Keyed} {lt : Nat -> Nat -> Bool} {N : Nat}
end
end L2
namespace L2
open PySem PySem.W PyProof.Rows
section
variable {prog : Program} {w : World} {A : Around} {E : Value -> Shared -> Prop} {s : Shared}
end
end L2
namespace L2
open PySem PySem.W PyProof.Rows
section
variable {X : Cx}
end
end L2
namespace L2
open PySem PySem.Spec PyProof.Rows
theorem sqT {K : PySem.W.Frag} {H H' : Hp} {a : Addr} {xs : List V} (e : Same H H') (h : SqT K H a xs) : SqT K H' a xs := e.seqK (k := .t) h
section
variable {X : Cx}
theorem call_isT : CallR X (.builtin "isinstance") (fun xs H Q => ∃ a ys n b, xs = [.ref a, .ty n] /\ SqT X.K H a ys /\ PySem.W.kitOne X.K (.type "tuple") (.type n) = some b /\ Q (.bl b) H) := by
  intro pins s σ H xs us Q I r h
  obtain ⟨a, ys, n, b, rfl, hq, e, q⟩ := h
  obtain ⟨u1, u2, rfl, r1, r2⟩ := Vals.two r
  cases (show u1 = Value.ref a from r1)
  cases (show u2 = Value.type n from r2)
  obtain ⟨its, _, ⟨o, h1, h2, _⟩, _⟩ := I.tuple hq
  exact PySem.W.kia_one PySem.W.kitx_tuple I.kIn ⟨o, h1, h2⟩ e (fun z => nomatch z) fun tk => ⟨.bl b, H, I.tok tk, rfl, q⟩
end
end L2
namespace L2
open PySem PySem.W PyProof.Rows
section
variable {X : Cx}
end
section
variable {prog : Program} {w : World} {A : Around}
end
section
variable {X : Cx}
theorem ints_at' {ns : List Int} {its : List Value} (r : Vals (ns.map V.int) its) {i : Nat} {v : Value} (e : its.toArray[i]? = some v) : ∃ t, v = .int (ns.getD i 0) t := by
  have e' : its[i]? = some v := by simpa using e
  have hl : i < its.length := (List.getElem?_eq_some_iff.mp e').1
  have hb : i < ns.length := by have := r.length; rw [List.length_map] at this; omega
  obtain ⟨u, e1, t, q⟩ := r.get (i := i) (x := V.int ns[i]) (by simp [hb])
  rw [e1] at e'
  cases e'
  exact ⟨t, by rw [q]; simp [List.getD, hb]⟩
end
end L2
namespace L2
open PySem PySem.Spec PyProof.Rows
section
variable {X : Cx}
end
end L2
namespace L2
open PySem PySem.W PyProof.Rows
section
variable {prog : Program} {w : World} {d : Addr} {es : Array DictEntry} {ep : Nat} {o : Obj}
end
section
variable {X : Cx}
end
end L2
namespace L2
open PySem PySem.Spec PyProof.Rows
section
variable {X : Cx}
theorem range_any_get (bs : List Bool) : (List.range bs.length).any (fun i => bs.getD i false) = bs.any id := by
  rw [Bool.eq_iff_iff, List.any_eq_true, List.any_eq_true]
  constructor
  · rintro ⟨i, hi, h⟩
    have hi' := List.mem_range.mp hi
    refine ⟨bs[i], List.getElem_mem hi', ?_⟩
    simpa [List.getD, hi'] using h
  · rintro ⟨x, hx, h⟩
    obtain ⟨i, hi, e⟩ := List.mem_iff_getElem.mp hx
    refine ⟨i, List.mem_range.mpr hi, ?_⟩
    simp [List.getD, hi, e]
    exact h
theorem call_any (hc : X.calm = true) : CallR X (.builtin "any") (fun xs H Q => ∃ (p : Addr) (bs : List Bool), xs = [.ref p] /\ SqL X.K H p (bs.map V.bl) /\ Q (.bl (bs.any id)) H) := by
  intro pins s σ H xs us Q I r h
  obtain ⟨p, bs, rfl, hp, q⟩ := h
  obtain ⟨u, rfl, ru⟩ := Vals.one r
  cases (show u = Value.ref p from ru)
  obtain ⟨its, r1, t1, _⟩ := I.list hp
  have hh : X.A.in1.handled = none := I.ok.hd hc
  have hlt : p < s.heap.objs.size := by obtain ⟨_, e, _⟩ := t1.isList; exact Heap.lt_size e
  refine call_any_walk (wpAny_pyIter_list t1.isList ⟨_, _, _, _, _, _, fun i => bs.getD i false, rfl, Walks.list hh _ p (Nat.ne_of_lt hlt) its.toArray, ⟨⟨_, Heap.get?_push_size _ rfl, rfl, rfl⟩, t1.isList.push _⟩, ?_, ?_⟩)
  · intro i v s' Q' E' e hq
    rw [bools_at r1 e]
    exact wpAny_truthy_bool hq
  · intro h' tk hk
    have hl : its.toArray.size = bs.length := by have := r1.length; simp at this ⊢; omega
    rw [hl, range_any_get]
    exact ⟨.bl _, H, I.kept (kept_iter hk), rfl, q⟩
def rInsert : V -> List V -> Hp -> VK -> Prop := fun x vs H Q => ∃ (l : Addr) (xs : List V) (i : Nat) (y : V), x = .ref l /\ vs = [.int (i : Int), y] /\ H l = some (.lst xs) /\ i <= xs.length /\ xs.length < 1000 /\ Q .non (upd H l (.lst (xs.take i ++ y :: xs.drop i)))
theorem vals_take {xs : List V} {us : List Value} (r : Vals xs us) (i : Nat) : Vals (xs.take i) (us.take i) := by
  induction r generalizing i with
  | nil => simp; exact .nil
  | cons a t ih =>
    cases i with
    | zero => exact .nil
    | succ i => exact .cons a (ih i)
theorem vals_drop {xs : List V} {us : List Value} (r : Vals xs us) (i : Nat) : Vals (xs.drop i) (us.drop i) := by
  induction r generalizing i with
  | nil => simp; exact .nil
  | cons a t ih =>
    cases i with
    | zero => exact .cons a t
    | succ i => exact ih i
theorem mt_insert : MtM X "list.insert" rInsert := by
  intro pins s σ H x vs v us Q I rx rv h
  obtain ⟨l, xs, i, y, rfl, rfl, hH, hi, hz, q⟩ := h
  cases rx
  obtain ⟨u1, u2, rfl, r1, r2⟩ := Vals.two rv
  obtain ⟨t, rfl⟩ := r1
  obtain ⟨z, its, n, r, hl, e⟩ := I.lstM hH
  have sl : (1000 : Nat) <= sizeLine := by decide
  have hs : its.toArray.size <= sizeLine := by rw [List.size_toArray, <- hl]; exact z
  have fin : ∀ ii : Int, ii = (i : Int) -> wpAny (model X.prog X.w) X.A (call (.builtin "list.insert") [.ref l, .int ii t, u2]) (EP X pins σ Q) X.xe s := by
    intro ii hii
    have hfit : ¬(!Builtin.List.listFitsIndex ii) = true := by
      unfold Builtin.List.listFitsIndex
      simp
      omega
    refine call_meets F.slot_list_insert ⟨_, e, rfl⟩ F.entry_list_insert (F.args_list_insert_3 _ _ _) (AutoSeq1.list_insert_list_int_val_1 l its.toArray n ii t u2 hfit hs) ⟨e, ?_⟩
    refine ⟨.non, _, I.lset (its' := its.take i ++ u2 :: its.drop i) hH e ?_ ((vals_take r i).append (.cons r2 (vals_drop r i))) ?_, rfl, q⟩
    · dsimp only
      rw [if_neg (by omega), show ii.toNat = i by omega, List.size_toArray, Nat.min_eq_left (by omega)]
      apply Array.ext'
      simp
      exact List.take_of_length_le (by rw [List.length_drop]; exact Nat.le_refl _)
    · rw [List.length_append, List.length_cons, List.length_take, List.length_drop]
      omega
  exact fin _ rfl
def rIndex (K : PySem.W.Frag) : V -> List V -> Hp -> VK -> Prop := fun x vs H Q => ∃ (l : Addr) (ns : List Int) (k : Int) (j : Nat), x = .ref l /\ vs = [.int k] /\ H l = some (.lst (ns.map V.int)) /\ ns.length < 1000 /\ ns[j]? = some k /\ (∀ m, m < j -> ns[m]? ≠ some k) /\ Q (.int (j : Int)) H
def isK (k : Int) (v : Value) : Bool := match v with | .int a _ => a == k | _ => false
theorem ints_at {ns : List Int} {its : List Value} (r : Vals (ns.map V.int) its) {m : Nat} (hm : m < its.length) : ∃ t a, ns[m]? = some a /\ its[m] = .int a t := by
  have hl := r.length
  rw [List.length_map] at hl
  have e : (ns.map V.int)[m]? = some (V.int ns[m]) := by rw [List.getElem?_map, List.getElem?_eq_getElem (by omega)]; rfl
  obtain ⟨u, hu, t, ru⟩ := r.get e
  rw [List.getElem?_eq_getElem hm] at hu
  exact ⟨t, ns[m], List.getElem?_eq_getElem (by omega), (Option.some.inj hu).trans ru⟩
theorem mt_lindex : MtR X "list.index" (rIndex X.K) := by
  intro pins s σ H x vs v us Q I rx rv h
  obtain ⟨l, ns, k, j, rfl, rfl, hH, hz, hj, hno, q⟩ := h
  cases rx
  obtain ⟨u, rfl, t, rfl⟩ := rv.one
  obtain ⟨z, its, n, r, hl, e⟩ := I.lstM hH
  rw [List.length_map] at hl
  have jl : j < ns.length := (List.getElem?_eq_some_iff.mp hj).1
  refine call_meets F.slot_list_index ⟨_, e, rfl⟩ F.entry_list_index (F.args_list_index_2 _ _) (MeetsSeq.list_index l its.toArray n (.int k t) (isK k) ?_ j (by rw [List.size_toArray]; omega) (by omega) ?_ ?_) ⟨e, ?_⟩
  · intro y hy
    obtain ⟨m, hm, rfl⟩ := List.mem_iff_getElem.mp (show y ∈ its by simpa using hy)
    obtain ⟨t', a, _, e2⟩ := ints_at r hm
    rw [e2]
    exact MeetsSeq.EqGives.int a k t' t
  · show isK k its[j] = true
    obtain ⟨t', a, e1, e2⟩ := ints_at r (show j < its.length by omega)
    rw [e2]
    rw [hj] at e1
    cases e1
    exact beq_self_eq_true k
  · intro m hm hmj
    show isK k its[m] = false
    obtain ⟨t', a, e1, e2⟩ := ints_at r (show m < its.length by omega)
    rw [e2]
    show (a == k) = false
    rw [beq_eq_false_iff_ne]
    intro z
    exact hno m hmj (by rw [e1, z])
  · exact ⟨.int (j : Int), H, I.tok _, ⟨_, rfl⟩, q⟩
end
end L2
namespace L2
open PySem PySem.Spec PyProof.Rows PySem.MeetsSeq
section
variable {X : Cx}
end
end L2
namespace L2
open PySem PySem.Spec PyProof.Rows PySem.MeetsSeq
def FzT (H : Hp) (a : Addr) (xs : List V) : Prop := ∃ o : Obj, o.cls = .type "tuple" /\ o.dict = none /\ H a = some (.frz o (.tup xs))
theorem FzT.sq {K : PySem.W.Frag} {H : Hp} {a : Addr} {xs : List V} (h : FzT H a xs) : SqT K H a xs := let ⟨o, _, _, e⟩ := h; .inl (.inr ⟨o, e⟩)
theorem FzT.same {H H' : Hp} {a : Addr} {xs : List V} (h : FzT H a xs) (s : Same H H') : FzT H' a xs := let ⟨o, c, d, e⟩ := h; ⟨o, c, d, s _ _ e⟩
theorem FzT.new {H : Hp} {a : Addr} {xs : List V} {o : Obj} (c : o.cls = .type "tuple") (d : o.dict = none) : FzT (upd H a (.frz o (.tup xs))) a xs := ⟨o, c, d, upd_same⟩
section
variable {X : Cx}
variable {o e : Expr} {es : List Expr} {to : TE} {t : TA} {name : Str} {apos cpos : Pos} {id : String} {r : V -> List V -> Hp -> VK -> Prop}
theorem call_tupleF : CallR X (.type "tuple") (fun xs H Q => ∃ p ys, xs = [.ref p] /\ ((SqL X.K H p ys /\ ∀ l o, o.cls = .type "tuple" -> o.dict = none -> H l = none -> Q (.ref l) (upd H l (.frz o (.tup ys)))) \/ (SqT X.K H p ys /\ Q (.ref p) H))) := by
  intro pins s σ H xs us Q I r h
  obtain ⟨p, ys, rfl, h⟩ := h
  obtain ⟨u, rfl, rx⟩ := vals1 r
  cases rx
  rcases h with ⟨hq, q⟩ | ⟨hq, q⟩
  · obtain ⟨its, r', pl, hz⟩ := I.list hq
    have hlen := r'.length
    refine call_tuple_list pl.isList (fun h' kp => ?_) (by simp only [List.size_toArray] <;> lia)
    have I1 : Inv X pins σ H { s with heap := h' } := I.kept (t' := s.toks) kp
    have I2 : Inv X pins σ (upd H h'.objs.size (.frz { cls := .type "tuple", data := .seq its.toArray } (.tup ys))) { s with heap := h'.push { cls := .type "tuple", data := .seq its.toArray } } :=
      I1.laid (t' := s.toks) (fun b o e => Heap.get?_push_of_some _ e) (Nat.le_refl _) (show ObjOk X.prog X.w _ _ _ (.frz _ (.tup ys)) from ⟨Heap.get?_push_size _ rfl, hz, its, r', IsTup.new _ _⟩)
    exact ⟨.ref h'.objs.size, _, I2, rfl, q _ _ rfl rfl (I1.hok.fresh (Nat.le_refl _))⟩
  · obtain ⟨its, r', pl, hz⟩ := I.tuple hq
    exact call_tuple_same pl ⟨.ref p, H, I, rfl, q⟩
theorem call_tuple_rngF (hc : X.calm = true) : CallR X (.type "tuple") (fun xs H Q => ∃ (p : Addr) (n : Nat), xs = [.ref p] /\ H p = some (.rng 0 n) /\ n <= 1000 /\ ∀ l o, o.cls = .type "tuple" -> o.dict = none -> H l = none -> Q (.ref l) (upd H l (.frz o (.tup (upN n))))) := by
  intro pins s σ H xs us Q I r h
  obtain ⟨p, n, rfl, hp, hn, q⟩ := h
  obtain ⟨u, rfl, ru⟩ := Vals.one r
  cases (show u = Value.ref p from ru)
  obtain ⟨t1, t2, t3, e⟩ := I.hok p _ hp
  refine callType_new F.called_tuple (by decide) (F.typeCall_tuple_1 _) (F.newCall_tuple_1 _) (fun obj => F.args_object_init_2 obj _) F.entry_tuple_new
    (new_tuple_range p 0 n 1 t1 t2 t3 n (small_one (by decide) (by decide) (by lia) (by lia)) (size1 n) (by lia)) ⟨⟨I.ok.hd hc, e⟩, fun h' tk acc hk hz hacc => ⟨⟨_, Heap.get?_push_size _ rfl, rfl⟩, ?_⟩⟩
  have ge : s.heap.objs.size <= h'.objs.size := Nat.le_of_lt hz
  refine ⟨.ref h'.objs.size, upd H h'.objs.size (.frz { cls := .type "tuple", data := .seq acc } (.tup (upN n))), I.laid (fun b o e => Heap.get?_push_of_some _ (hk b o e)) ge ?_, rfl, q _ _ rfl rfl (I.hok.fresh ge)⟩
  refine ⟨Heap.get?_push_size _ rfl, by unfold upN; rw [List.length_map, List.length_range]; exact Nat.le_trans hn (by decide), acc.toList, items_up hacc, _, Heap.get?_push_size _ rfl, rfl, 0, by simp⟩
def rIsTsF (K : PySem.W.Frag) : List V -> Hp -> VK -> Prop := fun xs H Q => ∃ (a p : Addr) (cs ys : List V) (T : String) (b : Bool), xs = [.ref a, .ref p] /\ SqT K H p cs /\ ((H a = some (.lst ys) /\ T = "list") \/ (FzT H a ys /\ T = "tuple")) /\ (∀ us, Vals cs us -> PySem.W.kitAny K (.type T) us = some b) /\ Q (.bl b) H
theorem call_isTsF : CallR X (.builtin "isinstance") (rIsTsF X.K) := by
  intro pins s σ H xs us Q I r h
  obtain ⟨a, p, cs, ys, T, b, rfl, hp, ha, e, q⟩ := h
  obtain ⟨v1, v2, rfl, r1, r2⟩ := Vals.two r
  cases (show v1 = Value.ref a from r1)
  cases (show v2 = Value.ref p from r2)
  obtain ⟨its, rv, ⟨o, ho, hc, n, hd⟩, _⟩ := I.tuple hp
  obtain ⟨oc, od, dt, sl⟩ := o
  have e1 : oc = .type "tuple" := hc
  have e2 : dt = .seq its.toArray n := hd
  subst e1 e2
  rcases ha with ⟨ea, rfl⟩ | ⟨⟨ob, c1, _, ea⟩, rfl⟩
  · obtain ⟨_, _, n, _, h1⟩ := (show ObjOk X.prog X.w H s.heap a (.lst ys) from I.hok a _ ea)
    exact PySem.W.kia_tup PySem.W.kitx_list I.kIn ⟨_, h1, rfl⟩ ho (e its rv) (by intro z; cases z) fun tk => ⟨.bl b, H, I.tok _, rfl, q⟩
  · exact PySem.W.kia_tup PySem.W.kitx_tuple I.kIn ⟨ob, (I.hok a _ ea).1, c1⟩ ho (e its rv) (by intro z; cases z) fun tk => ⟨.bl b, H, I.tok _, rfl, q⟩
end
end L2
namespace HT
open PySem PySem.Spec PyProof.Rows
section
variable {prog : Program} {w : World} {A : Around} {E : Value -> Shared -> Prop} {s : Shared}
end
end HT
namespace L2
open PySem PySem.Spec PyProof.Rows
section
variable {X : Cx}
end
end L2
namespace L2
open PySem PySem.Spec PyProof.Rows
section
open PySem.SeqAt
open PySem.AutoSeq1 (wpAny_loadPart')
open PySem.MeetsSeq PySem.MeetsSeq2 PySem.MeetsSeq3
end
end L2
namespace L2
open PySem PySem.W PyProof.Rows
section
variable {prog : Program} {w : World} {A : Around} {E : Value -> Shared -> Prop} {s : Shared}
end
section
variable {X : Cx}
end
end L2
namespace L2
open PySem PySem.Spec PyProof.Rows
section
variable {env : Env} {C : Addr} {names : List (Str × NameKind)} {x : Str} {d : Addr}
end
section
variable {X : Cx} {scope : Scope} {N' : List Str} {fr : List (Option Nat)} {pins : List (Addr × Obj)} {σ : St} {H : Hp} {s : Shared} {fp : List Addr}
end
section
variable {X : Cx} {scope : Scope} {N' : List Str} {fr : List (Option Nat)} {pins : List (Addr × Obj)} {σ : St} {H : Hp} {s : Shared} {fp : List Addr} {it : Addr} {tn : Nat -> Heap -> Prop} {J : It}
  {elt tg iter : Expr} {ifs : List Expr} {g : TG} {tt : TT} {te : TE} {pos : Pos} {fin : List V -> Hp -> Prop} {W : Nat -> Nat -> List V -> St -> Hp -> Prop} {RR : Value -> Addr -> Result -> Shared -> Prop} {E : Value -> Shared -> Prop}
end
end L2
namespace L2
open PySem PySem.Spec PyProof.Rows PySem.MeetsSeq PySem.AutoSeq1
end L2
namespace L2
open PySem PySem.Spec PyProof.Rows
section
variable {X : Cx}
end
def rLenK (K : PySem.W.Frag) : List V -> Hp -> VK -> Prop := fun xs H Q => ∃ p ys, xs = [.ref p] /\ (SqL K H p ys \/ SqT K H p ys) /\ Q (.int ys.length) H
def rIsiK (K : PySem.W.Frag) : List V -> Hp -> VK -> Prop := fun xs H Q => ∃ x c t u b, xs = [x, c] /\ RelV c u /\ TyOf K H x t /\ PySem.W.kitOne K t u = some b /\ Q (.bl b) H
def rTupOfK (K : PySem.W.Frag) : List V -> Hp -> VK -> Prop := fun xs H Q => ∃ p ys, xs = [.ref p] /\ ((SqL K H p ys /\ ∀ l, H l = none -> Q (.ref l) (upd H l (.tup ys))) \/ (SqT K H p ys /\ Q (.ref p) H))
def rListOfK (K : PySem.W.Frag) : List V -> Hp -> VK -> Prop := fun xs H Q => ∃ p ys, xs = [.ref p] /\ (SqL K H p ys \/ SqT K H p ys) /\ ∀ l, H l = none -> Q (.ref l) (upd H l (.lst ys))
theorem seq_abs {A B : TS} {D : Ends} {σ : St} {H : Hp} (h : ∀ M : St -> Hp -> Prop, (∀ σ H, B D σ H -> M σ H) -> A { D with nx := M } σ H) : tSeq A B D σ H := h _ fun _ _ z => z
section
variable {X : Cx} (K : PySem.W.Frag)
theorem ix_listK (h : X.K = K := by rfl) : IxR X (rIxL K) := h ▸ ix_list
theorem ix_tupK (h : X.K = K := by rfl) : IxR X (rIxT K) := h ▸ ix_tup
theorem sl_listK (h : X.K = K := by rfl) : SlR X (rSlL K) := h ▸ sl_list
theorem call_lenK (h : X.K = K := by rfl) : CallR X (.builtin "len") (rLenK K) := h ▸ call_len_seq
theorem call_isiK (h : X.K = K := by rfl) : CallR X (.builtin "isinstance") (rIsiK K) := h ▸ call_isinst
theorem call_tuple_ofK (h : X.K = K := by rfl) : CallR X (.type "tuple") (rTupOfK K) := h ▸ call_tuple_of
theorem call_list_ofK (h : X.K = K := by rfl) : CallR X (.type "list") (rListOfK K) := h ▸ call_list_of
theorem op_eqNilK (hu : X.A.units + 66 < cLine) (h : X.K = K := by rfl) : OpR X (compareOp .Eq) (rNil K false) := h ▸ op_eqNil hu
theorem op_neSK (hu : X.A.units + 66 < cLine) (h : X.K = K := by rfl) : OpR X (compareOp .NotEq) (rSame K false) := h ▸ op_neS hu
theorem pi_seqK {tg : Expr} (k : Kd) {l : Expr} {tl : TE} (hl : PE X l tl) (h : X.K = K := by rfl) : PI X tg l (iSeq k K tl) := h ▸ pi_seq k hl
theorem pg_tupK (n : Nat) {es : List Expr} {k : Nat} {t : TGs} {pos : Pos} (hc : X.calm = true) (h : PGs X es t)
    (hn : (assignEach es X.env).length = n := by rfl) (hst : (assignEach es X.env).findIdx? (·.1) = none := by rfl) (hK : X.K = K := by rfl) : PG X (.Tuple es k pos) (gTup K n t) := hK ▸ pg_tup hc h hn hst
theorem pi_enumK {elts : List Expr} {x1 : Nat} {tpos : Pos} {l : Expr} {ta : TA} {p pos : Pos} (k : Kd) (hg : Gl X "enumerate") (hm : X.mg "enumerate" = none) (ha : PA X [l] ta) (hs : starEach [l] X.env = [(false, eval l X.env)] := by rfl) (h : X.K = K := by rfl) :
    PI X (.Tuple elts x1 tpos) (.Call (.Name "enumerate" p) [l] [] pos) (iEnum k K ta) := h ▸ pi_enum k hg hm ha hs
end
section
variable {X : Cx}
end
section
variable {X : Cx}
end
section
variable {X : Cx} {m : Str} {apos pos : Pos} {o : Expr} {ta : TE}
end
section
variable {X : Cx}
end
section
variable {X : Cx}
end
end L2
namespace L2
open PySem PySem.W PyProof.Rows
section
variable {X : Cx}
end
end L2
namespace L2
open PySem PySem.W PyProof.Rows
section
variable {prog : Program} {w : World} {A : Around} {E : Value -> Shared -> Prop} {s : Shared}
end
end L2
namespace L2
open PySem PySem.W PyProof.Rows
section
variable {X : Cx}
def CDivB (i j : Int) : Prop := 0 < j /\ j.natAbs.log2 < 9000
theorem op_fdivB : OpR X (binaryOp .FloorDiv) (rI CDivB fun i j => .int (i / j)) := opI fun i j _ _ _ _ _ hc q => by
  refine floordiv_int (by have := hc.1; lia) ?_ (.inl (PyProof.noPylong_of_log2 hc.2))
  rw [Int.fdiv_eq_ediv_of_nonneg _ (Int.le_of_lt hc.1)]
  exact q
theorem all_same {α : Type} [DecidableEq α] (d : α) {l m : List α} {n k : Nat} (hn : n = l.length) (hk : k = m.length) : ((List.range (min n k)).all (fun i => decide (l.getD i d = m.getD i d)) && n == k) = decide (l = m) := by
  subst hn hk
  rw [Bool.eq_iff_iff, Bool.and_eq_true, List.all_eq_true, beq_iff_eq, decide_eq_true_iff]
  constructor
  · rintro ⟨h, e⟩
    refine List.ext_getElem e fun i h1 h2 => ?_
    have := of_decide_eq_true (h i (List.mem_range.mpr (by lia)))
    simpa [h1, h2] using this
  · rintro rfl
    exact ⟨fun i _ => decide_eq_true rfl, rfl⟩
theorem eqV_int (i j : Int) : eqV (.int i) (.int j) = decide (i = j) := by
  unfold eqV
  rw [Bool.eq_iff_iff, beq_iff_eq, decide_eq_true_iff]
end
end L2
namespace L2
open PySem PySem.W PyProof.Rows
section
variable {X : Cx} {pos : Pos}
end
end L2
namespace L2
open PySem PySem.SetTable
def adv (m : Nat) (p : Probe) : Probe :=
  if p.more > 0 then { p with j := p.j + 1, more := p.more - 1 } else
  let (i, perturb) := leap m p.i p.perturb
  { p with j := i, more := runEnd m i - i, i, perturb }
def wstart (m : Nat) (h : Int) : Probe := { j := bits h % (m + 1), more := runEnd m (bits h % (m + 1)) - bits h % (m + 1), i := bits h % (m + 1), perturb := bits h, dummy := none }
def way (m : Nat) (h : Int) : Nat -> Probe
  | 0 => wstart m h
  | n + 1 => adv m (way m h n)
def nx (m i : Nat) : Nat := (i * 5 + 1) % (m + 1)
theorem least (P : Nat -> Prop) : ∀ n, P n -> ∃ k, k <= n /\ P k /\ ∀ i, i < k -> ¬ P i := fun n => by
  induction n using Nat.strongRecOn with
  | _ n ih =>
    intro h
    by_cases c : ∃ i, i < n /\ P i
    · obtain ⟨i, hi, q⟩ := c
      obtain ⟨k, hk, r⟩ := ih i hi q
      exact ⟨k, by lia, r⟩
    · exact ⟨n, Nat.le_refl _, h, fun i hi z => c ⟨i, hi, z⟩⟩
end L2
namespace L2
open PySem PySem.SetTable
def lv (m : Nat) (o : Array (Option Nat)) : List (Nat × Nat) := (List.range (m + 1)).filterMap fun j => (o.getD j none).map (j, ·)
end L2
namespace L2
open PySem PySem.SetTable
section
variable {prog : Program} {w : World} {A : Around} {E : Value -> Shared -> Prop} {s : Shared}
end
end L2
namespace L2
open PySem PySem.SetTable
section
variable {prog : Program} {w : World} {A : Around} {E : Value -> Shared -> Prop} {s : Shared} {a b : Addr} {o : Obj} {es : Array (Int × Value)} {ep : Nat} {t : SetTable} {kx : List Int}
end
end L2
namespace L2
open PySem PySem.SetTable PyProof.Rows
section
variable {prog : Program} {w : World} {G : Value -> List Int -> Prop} {A : Around} {E : Value -> Shared -> Prop} {s : Shared} {a b : Addr} {led : Bool} {kss : List (List Int)} {kx : List Int}
end
end L2
namespace L2
open PySem PySem.Spec PyProof.Rows
section
variable {prog : Program} {w : World} {A : Around} {R : Result -> Shared -> Prop} {I : Addr} {fp wr : List Addr} {G : Array GenState -> Array GenState -> Prop} {n : Nat} {P : Nat -> Value -> Prop} {St : Nat -> Shared -> Prop}
end
section
variable {prog : Program} {w : World} {A : Around} {E : Value -> Shared -> Prop} {s : Shared}
set_option maxHeartbeats 8000000 in
end
end L2
namespace L2
open PySem PySem.W PyProof.Rows
section
variable {prog : Program} {w : World} {A : Around} {E : Value -> Shared -> Prop} {s : Shared} {a : Addr} {kss : List (List Int)} {G : Value -> List Int -> Prop}
end
section
variable {X : Cx}
end
end L2
namespace L2
open PySem PySem.W PyProof.Rows
section
variable {X : Cx}
end
end L2
namespace L2
open PySem PySem.W PyProof.Rows
theorem least_at (ns : List Int) : ∀ k, k < ns.length -> argBest (fun i j => decide (ns.getD i 0 < ns.getD j 0)) k <= k /\ ∀ i, i <= k -> ns.getD (argBest (fun i j => decide (ns.getD i 0 < ns.getD j 0)) k) 0 <= ns.getD i 0
  | 0, _ => ⟨Nat.le_refl _, fun i hi => by rw [show i = 0 by lia]; exact Int.le_refl _⟩
  | k + 1, h => by
    obtain ⟨a, b⟩ := least_at ns k (by lia)
    show (if decide (ns.getD (k + 1) 0 < ns.getD (argBest (fun i j => decide (ns.getD i 0 < ns.getD j 0)) k) 0) = true then k + 1 else argBest (fun i j => decide (ns.getD i 0 < ns.getD j 0)) k) <= k + 1 /\
      ∀ i, i <= k + 1 -> ns.getD (if decide (ns.getD (k + 1) 0 < ns.getD (argBest (fun i j => decide (ns.getD i 0 < ns.getD j 0)) k) 0) = true then k + 1 else argBest (fun i j => decide (ns.getD i 0 < ns.getD j 0)) k) 0 <= ns.getD i 0
    generalize argBest (fun i j => decide (ns.getD i 0 < ns.getD j 0)) k = m at a b
    by_cases g : ns.getD (k + 1) 0 < ns.getD m 0
    · rw [decide_eq_true g, if_pos rfl]
      refine ⟨Nat.le_refl _, fun i hi => ?_⟩
      by_cases c : i = k + 1
      · rw [c]; exact Int.le_refl _
      · exact Int.le_trans (Int.le_of_lt g) (b i (by lia))
    · rw [decide_eq_false g, if_neg (by decide)]
      refine ⟨by lia, fun i hi => ?_⟩
      by_cases c : i = k + 1
      · rw [c]; lia
      · exact b i (by lia)
section
variable {X : Cx}
def rMin1L (K : PySem.W.Frag) : List V -> Hp -> VK -> Prop := fun xs H Q => ∃ (p : Addr) (ns : List Int), xs = [.ref p] /\ SqL K H p (ns.map V.int) /\ ns ≠ [] /\ ∀ m ∈ ns, (∀ x ∈ ns, m <= x) -> Q (.int m) H
theorem call_min1L (hc : X.calm = true) : CallR X (.builtin "min") (rMin1L X.K) := by
  intro pins s σ H xs us Q I r h
  obtain ⟨p, ns, rfl, hp, ne, q⟩ := h
  obtain ⟨u1, rfl, ru⟩ := Vals.one r
  cases (show u1 = Value.ref p from ru)
  obtain ⟨its, rr, t1, _⟩ := I.list hp
  have hh : X.A.in1.handled = none := I.ok.hd hc
  have hlt : p < s.heap.objs.size := by obtain ⟨_, e, _⟩ := t1.isList; exact Heap.lt_size e
  have hz : its.toArray.size = ns.length := by have := rr.length; rw [List.length_map] at this; simp; lia
  have n0 : 0 < ns.length := List.length_pos_iff.mpr ne
  refine call_min_walk (wpAny_pyIter_list t1.isList ⟨_, _, _, _, _, _, _, rfl, Walks.list hh _ p (Nat.ne_of_lt hlt) its.toArray, ⟨⟨_, Heap.get?_push_size _ rfl, rfl, rfl⟩, t1.isList.push _⟩, ?_, by lia, CmpOf.ints_lt (fun i => ns.getD i 0) (fun i v e => ints_at' rr e), ?_⟩)
  · intro c hc'
    show c < (s.heap.push _).objs.size
    rw [Heap.size_push]
    rcases List.mem_cons.mp hc' with rfl | hc'
    · exact Nat.lt_succ_self _
    · rw [List.mem_singleton.mp hc']; exact Nat.lt_succ_of_lt hlt
  · intro v h' tk hP hk
    rw [hz] at hP
    obtain ⟨t, e⟩ := ints_at' rr hP
    obtain ⟨a, b⟩ := least_at ns (ns.length - 1) (by lia)
    refine ⟨.int _, H, I.kept (kept_iter hk), ⟨t, e⟩, q _ ?_ fun x hx => ?_⟩
    · have : argBest (fun i j => decide (ns.getD i 0 < ns.getD j 0)) (ns.length - 1) < ns.length := by lia
      rw [List.getD_eq_getElem?_getD, List.getElem?_eq_getElem this]
      exact List.getElem_mem this
    · obtain ⟨i, hi, rfl⟩ := List.getElem_of_mem hx
      have := b i (by lia)
      have e2 : ns.getD i 0 = ns[i] := by simp [hi]
      rw [e2] at this
      exact this
def rEqLI (K : PySem.W.Frag) : R2 := fun x y H Q => ∃ (a b : Addr) (ks ms : List Int), x = .ref a /\ y = .ref b /\ SqL K H a (ks.map V.int) /\ SqL K H b (ms.map V.int) /\ Q (.bl (decide (ks = ms))) H
theorem op_eqLI (hu : X.A.units + 66 < cLine) : OpR X (compareOp .Eq) (rEqLI X.K) := by
  intro pins s σ H x y v u Q I rx ry h
  obtain ⟨a, b, ks, ms, rfl, rfl, ha, hb, q⟩ := h
  cases (show v = Value.ref a from rx)
  cases (show u = Value.ref b from ry)
  obtain ⟨its, r1, t1, _⟩ := I.list ha
  obtain ⟨its2, r2, t2, _⟩ := I.list hb
  have l1 : its.toArray.size = ks.length := by rw [List.size_toArray, <- r1.length, List.length_map]
  have l2 : its2.toArray.size = ms.length := by rw [List.size_toArray, <- r2.length, List.length_map]
  by_cases c : ks.length = ms.length
  · refine SeqAt.eq_listAt (e := fun i => decide (ks.getD i 0 = ms.getD i 0)) t1.isList t2.isList (by lia) (by lia) (fun j h1 h2 => ?_) ?_
    · have i1 : j < ks.length := by lia
      have i2 : j < ms.length := by lia
      obtain ⟨v1, e1, p1⟩ := r1.get (i := j) (x := .int ks[j]) (by simp [i1])
      obtain ⟨v2, e2, p2⟩ := r2.get (i := j) (x := .int ms[j]) (by simp [i2])
      have w1 : its.toArray[j] = v1 := by have := List.getElem?_eq_some_iff.mp e1; simpa using this.2
      have w2 : its2.toArray[j] = v2 := by have := List.getElem?_eq_some_iff.mp e2; simpa using this.2
      rw [w1, w2]
      have := eqAt_V (A := X.A.in1) (s := s) p1 p2 rfl rfl
      rw [eqV_int] at this
      simpa [i1, i2] using this
    · have := all_same (0 : Int) l1 l2
      rw [show min its.toArray.size its2.toArray.size = its.toArray.size by lia, show (its.toArray.size == its2.toArray.size) = true by rw [beq_iff_eq]; lia, Bool.and_true] at this
      rw [this]
      exact ⟨.bl _, H, I, rfl, q⟩
  · refine SeqAt.eq_list_lengthsAt t1.isList t2.isList (by rw [bne_iff_ne, l1, l2]; exact c) (by lia) ?_
    rw [decide_eq_false (fun z => c (by rw [z]))] at q
    exact ⟨.bl _, H, I, rfl, q⟩
end
end L2
namespace My
open PySem L2
def top (i : Nat) : Stmt := PySem.Challenge.pw_manycounts_k84_drawings_and_lands.main.body.getD i (.Pass ⟨0, 0, 0, 0⟩)
abbrev sIsWhole : Stmt := top 6
abbrev sEach : Stmt := top 7
abbrev sLesser : Stmt := top 10
abbrev sWhole : Stmt := top 11
abbrev sHeads : Stmt := top 13
abbrev sClus : Stmt := top 14
abbrev sUnder : Stmt := top 15
abbrev sJoined : Stmt := top 16
abbrev sDrawing : Stmt := top 18
abbrev sWebOf : Stmt := top 19
abbrev sRounds : Stmt := top 20
abbrev sRound : Stmt := top 21
abbrev sLands : Stmt := top 22
abbrev sOther : Stmt := top 23
abbrev sMate : Stmt := top 24
abbrev sAt : Stmt := top 26
abbrev sLRound : Stmt := top 27
abbrev sLRounds : Stmt := top 28
abbrev sBehind : Stmt := top 29
abbrev sGrown : Stmt := top 30
abbrev sNumbered : Stmt := top 31
abbrev sLWeb : Stmt := top 32
abbrev sLWhole : Stmt := top 33
abbrev sAreR : Stmt := top 34
abbrev sIsWeb : Stmt := top 35
abbrev sRight : Stmt := top 36
abbrev sLaw : Stmt := top 37
def TieAt (H : Hp) (v : V) (p : Int × Int) : Prop := ∃ a, v = .ref a /\ H a = some (.tup [.int p.1, .int p.2])
theorem TieAt.same {H H' : Hp} {v : V} {p : Int × Int} (h : TieAt H v p) (e : Same H H') : TieAt H' v p := let ⟨a, h1, h2⟩ := h; ⟨a, h1, e _ _ h2⟩
theorem ties_same {H H' : Hp} {xs : List V} {ps : List (Int × Int)} (h : Paired (TieAt H) xs ps) (e : Same H H') : Paired (TieAt H') xs ps := L2.Paired.mapP h fun _ _ q => q.same e
def norm (p : Int × Int) : Int × Int := if p.1 <= p.2 then (p.1, p.2) else (p.2, p.1)
structure WebAt (H : Hp) (w : V) (n : Int) (ps : List (Int × Int)) : Prop where
  ex : ∃ c d xs, w = .ref c /\ H c = some (.tup [.int n, .ref d]) /\ H d = some (.tup xs) /\ Paired (TieAt H) xs ps
theorem WebAt.same {H H' : Hp} {w : V} {n : Int} {ps : List (Int × Int)} (h : WebAt H w n ps) (e : Same H H') : WebAt H' w n ps := by
  obtain ⟨c, d, xs, h1, h2, h3, h4⟩ := h.ex
  exact ⟨c, d, xs, h1, e _ _ h2, e _ _ h3, ties_same h4 e⟩
structure Txt (K : W.Frag) (mg : Str -> Option Value) : Prop where
  isi : mg "isinstance" = none
  int : mg "int" = none
  bool : mg "bool" = none
  len : mg "len" = none
  tuple : mg "tuple" = none
  all : mg "all" = none
  list : mg "list" = none
  min : mg "min" = none
  max : mg "max" = none
  range : mg "range" = none
  set : mg "set" = none
  sorted : mg "sorted" = none
theorem boot_isi : bootBuiltins "isinstance" = some (.builtin "isinstance") := by first | rfl | decide +kernel
theorem boot_int' : bootBuiltins "int" = some (.type "int") := by first | rfl | decide +kernel
theorem boot_bool' : bootBuiltins "bool" = some (.type "bool") := by first | rfl | decide +kernel
theorem boot_tuple' : bootBuiltins "tuple" = some (.type "tuple") := by first | rfl | decide +kernel
theorem boot_list' : bootBuiltins "list" = some (.type "list") := by first | rfl | decide +kernel
theorem boot_all' : bootBuiltins "all" = some (.builtin "all") := by first | rfl | decide +kernel
theorem boot_min' : bootBuiltins "min" = some (.builtin "min") := by first | rfl | decide +kernel
theorem boot_max' : bootBuiltins "max" = some (.builtin "max") := by first | rfl | decide +kernel
theorem boot_sorted' : bootBuiltins "sorted" = some (.builtin "sorted") := by first | rfl | decide +kernel
def InN (n : Int) (p : Int × Int) : Prop := 0 <= p.1 /\ p.1 < n /\ 0 <= p.2 /\ p.2 < n
theorem mod_in (a n : Int) (h : 0 < n) : 0 <= a % n /\ a % n < n := ⟨Int.emod_nonneg _ (by lia), Int.emod_lt_of_pos _ h⟩
theorem cut_map (ns : List Int) (lo hi : Option Int) : ∃ ms : List Int, cutV (ns.map V.int) lo hi = ms.map V.int /\ ms.length <= ns.length := by
  refine ⟨(ns.drop (HT.sIx (ns.map V.int).length 0 lo)).take (HT.sIx (ns.map V.int).length (ns.map V.int).length hi - HT.sIx (ns.map V.int).length 0 lo), ?_, ?_⟩
  · unfold cutV
    rw [List.map_take, List.map_drop]
  · rw [List.length_take, List.length_drop]; lia
def ups (n : Int) : List Int := (List.range n.toNat).map fun (i : Nat) => (i : Int)
theorem upN_ups (n : Nat) : upN n = (ups n).map V.int := by
  unfold upN ups
  rw [List.map_map, Int.toNat_natCast]
  rfl
def at0 (l : List Int) (i : Int) : Int := l.getD i.toNat 0
def stepH (hs : List Int) (p : Int × Int) : List Int :=
  hs.map fun h => if h = (if at0 hs p.2 > at0 hs p.1 then at0 hs p.2 else at0 hs p.1) then (if at0 hs p.2 < at0 hs p.1 then at0 hs p.2 else at0 hs p.1) else h
def tieN (ps : List (Int × Int)) (k : Int) : Int × Int := ps.getD k.toNat (0, 0)
def hdF (ps : List (Int × Int)) (hs : List Int) (ks : List Int) : List Int := ks.foldl (fun hs k => stepH hs (tieN ps k)) hs
theorem getD_map {l : List Int} {f : Int -> Int} {i : Nat} (h : i < l.length) : (l.map f).getD i 0 = f (l.getD i 0) := by simp [List.getD, h]
theorem stepH_same {hs : List Int} {p : Int × Int} (h : at0 hs p.1 = at0 hs p.2) : stepH hs p = hs := by
  unfold stepH
  rw [h]
  have e : (fun x : Int => if x = (if at0 hs p.2 > at0 hs p.2 then at0 hs p.2 else at0 hs p.2) then (if at0 hs p.2 < at0 hs p.2 then at0 hs p.2 else at0 hs p.2) else x) = id := by
    funext x
    show _ = x
    split <;> simp_all
  rw [e, List.map_id]
theorem norm_cases (p : Int × Int) : (norm p).1 = p.1 /\ (norm p).2 = p.2 \/ (norm p).1 = p.2 /\ (norm p).2 = p.1 := by
  unfold norm
  split
  · exact .inl ⟨rfl, rfl⟩
  · exact .inr ⟨rfl, rfl⟩
theorem tieN_in {n : Int} {ps : List (Int × Int)} {k : Int} (hb : ∀ p ∈ ps, InN n p) (k0 : 0 <= k) (kl : k < ps.length) : InN n (tieN ps k) := by
  have : k.toNat < ps.length := by lia
  unfold tieN
  refine hb _ ?_
  simp [List.getD, this]
theorem ups_len (n : Int) : (ups n).length = n.toNat := by unfold ups; simp
theorem nine {n : Int} (h1 : 1 <= n) (h9 : n <= 9) : n = 1 \/ n = 2 \/ n = 3 \/ n = 4 \/ n = 5 \/ n = 6 \/ n = 7 \/ n = 8 \/ n = 9 := by lia
theorem stepH_len (hs : List Int) (p : Int × Int) : (stepH hs p).length = hs.length := by unfold stepH; simp
theorem hdF_snoc (ps : List (Int × Int)) (hs ks : List Int) (k : Int) : hdF ps hs (ks ++ [k]) = stepH (hdF ps hs ks) (tieN ps k) := by unfold hdF; rw [List.foldl_append]; rfl
theorem hdF_len (ps : List (Int × Int)) : ∀ (ks hs : List Int), (hdF ps hs ks).length = hs.length
  | [], _ => rfl
  | k :: ks, hs => by
    show (hdF ps (stepH hs (tieN ps k)) ks).length = _
    rw [hdF_len ps ks, stepH_len]
theorem boot_range' : bootBuiltins "range" = some (.type "range") := by first | rfl | decide +kernel
theorem boot_set' : bootBuiltins "set" = some (.type "set") := by first | rfl | decide +kernel
theorem for_seqK {k : Kd} {K : W.Frag} {a : Addr} {xs : List V} {g : TG} {tb : TS} {D : Ends} {σ : St} {H : Hp} (Pv : Nat -> St -> Hp -> Prop) (h0 : Pv 0 σ H) (hl : ∀ i σ H, i <= xs.length -> Pv i σ H -> SqK k K H a xs)
    (hs : ∀ (i : Nat) (x : V) (σ : St) (H : Hp), xs[i]? = some x -> Pv i σ H -> g x σ H fun σ2 H2 => tb { D with nx := Pv (i + 1), ct := Pv (i + 1), bk := D.nx } σ2 H2) (hd : ∀ σ H, Pv xs.length σ H -> D.nx σ H) :
    ∃ W : Nat -> Nat -> St -> Hp -> Prop, (∃ m, W 0 m σ H) /\ ∀ i m σ H, W i m σ H ->
      ((ItK k K a).stop i H /\ D.nx σ H) \/ ((ItK k K a).go i H /\ ∃ N : St -> Hp -> Prop, (∀ σ' H', N σ' H' -> ∃ m', m' < m /\ W (i + 1) m' σ' H') /\ ∀ x H', (ItK k K a).yld i H x H' -> g x σ H' fun σ2 H2 => tb { D with nx := N, ct := N, bk := D.nx } σ2 H2) := by
  refine ⟨fun i m σ H => m = xs.length - i /\ i <= xs.length /\ Pv i σ H, ⟨xs.length, by simp, Nat.zero_le _, h0⟩, ?_⟩
  rintro i m σ H ⟨rfl, hi, p⟩
  have q := hl i σ H hi p
  by_cases hlt : i < xs.length
  · refine .inr ⟨itk_go q hlt, Pv (i + 1), fun σ' H' p' => ⟨xs.length - (i + 1), by lia, rfl, hlt, p'⟩, fun x H' y => ?_⟩
    obtain ⟨e, hy2⟩ := itk_yld q y
    subst e
    exact hs i x σ H' hy2 p
  · have e : i = xs.length := by lia
    subst e
    exact .inl ⟨itk_stop q (Nat.le_refl _), hd σ H p⟩
theorem at_int {l : List Int} {i : Int} (h0 : 0 <= i) (hl : i < l.length) : atI (l.map V.int) i = some (.int (at0 l i)) := by
  obtain ⟨j, rfl⟩ := Int.eq_ofNat_of_zero_le h0
  have hj : j < l.length := by lia
  refine atI_nat ?_
  unfold at0
  simp [List.getD, hj]
theorem at_tie {H : Hp} {xs : List V} {ps : List (Int × Int)} (h : Paired (TieAt H) xs ps) {k : Int} (h0 : 0 <= k) (hl : k < ps.length) : ∃ c, atI xs k = some (.ref c) /\ H c = some (.tup [.int (tieN ps k).1, .int (tieN ps k).2]) := by
  obtain ⟨j, rfl⟩ := Int.eq_ofNat_of_zero_le h0
  have xl := Paired.length h
  have hj : j < xs.length := by lia
  obtain ⟨p, e1, c, e2, e3⟩ := Paired.at h (show xs[j]? = some xs[j] by simp [hj])
  refine ⟨c, atI_nat (by rw [List.getElem?_eq_getElem hj, e2]), ?_⟩
  have : tieN ps (j : Int) = p := by
    unfold tieN
    rw [Int.toNat_natCast, List.getD_eq_getElem?_getD, e1]
    rfl
  rw [this]
  exact e3
def Ks (m : Nat) (ks : List Int) : Prop := ∀ k ∈ ks, 0 <= k /\ k < (m : Int)
def spHeads (K : W.Frag) : Sp := fun vs H Q _ => ∃ (wv : V) (pk : Addr) (n : Int) (ps : List (Int × Int)) (ks : List Int), vs = [wv, .ref pk] /\ WebAt H wv n ps /\ 1 <= n /\ n <= 9 /\ (∀ p ∈ ps, InN n p) /\ SqT K H pk (ks.map V.int) /\ Ks ps.length ks /\
  ∀ l H', Same H H' -> H' l = some (.lst ((hdF ps (ups n) ks).map V.int)) -> Q (.ref l) H'
theorem ten_line {n : Nat} (h : n <= 10) : n < sizeLine := Nat.lt_of_le_of_lt h (by decide)
section
variable {P : Program} {w : World} {K : W.Frag} {mg : Str -> Option Value} {base : Heap}
theorem scHeads : FnScope ["web", "pick", "heads", "k", "tie", "low", "high"] ["web", "pick"] (defScope sHeads) := ⟨rfl, rfl, rfl, by decide +kernel, rfl, by decide +kernel, by decide +kernel⟩
theorem nd3 : (["head", "high", "low"] : List Str).Nodup := by decide +kernel
theorem d_heads (T : Txt K mg) (S : Src K mg "heads_of" sHeads ["web", "pick"]) : Def P w K mg base 1 "heads_of" ["web", "pick"] (spHeads K) := by
  refine S.def scHeads (fun vs H Q E h => ?_) (fun f cdv A outer s H vs Q E hr h => ?_)
  · obtain ⟨_, _, _, _, _, rfl, _⟩ := h; rfl
  · obtain ⟨wv, pk, n, ps, ks, rfl, W, n1, n9, hb, hk, hks, q⟩ := h
    obtain ⟨c, d, xs, rfl, hc, hd, ht⟩ := W.ex
    obtain ⟨m, rfl⟩ := Int.eq_ofNat_of_zero_le (show 0 <= n by lia)
    refine ⟨_, pss_cons (ps_set (i := 2) scHeads.nd rfl (Or.inl rfl) (pe_callTy (call_list_rng rfl) rfl T.list boot_list' (pa_cons (pe_callTy call_range1 rfl T.range boot_range' (pa_cons (pe_ix (ix_tupK K) (pv 0) pe_int (fun _ _ => rfl)) pa_nil)) pa_nil)))
      (pss_cons (ps_for PassesOwn.never rfl (pi_seqK K .t (pv 1)) (pg_name (i := 3) scHeads.nd rfl (Or.inl rfl))
        (pss_cons (ps_set (i := 4) scHeads.nd rfl (Or.inl rfl) (pe_ix (ix_tupK K) (pe_ix (ix_tupK K) (pv 0) pe_int (fun _ _ => rfl)) (pv 3) (fun _ _ => rfl)))
        (pss_cons (ps_set (i := 5) scHeads.nd rfl (Or.inr rfl) (pe_callB (call_min2 rfl) (by rfl) T.min boot_min' (pa_cons (pe_ix (ix_listK K) (pv 2) (pe_ix (ix_tupK K) (pv 4) pe_int (fun _ _ => rfl)) (fun _ _ => rfl)) (pa_cons (pe_ix (ix_listK K) (pv 2) (pe_ix (ix_tupK K) (pv 4) pe_int (fun _ _ => rfl)) (fun _ _ => rfl)) pa_nil))))
        (pss_cons (ps_set (i := 6) scHeads.nd rfl (Or.inr rfl) (pe_callB (call_max2 rfl) (by rfl) T.max boot_max' (pa_cons (pe_ix (ix_listK K) (pv 2) (pe_ix (ix_tupK K) (pv 4) pe_int (fun _ _ => rfl)) (fun _ _ => rfl)) (pa_cons (pe_ix (ix_listK K) (pv 2) (pe_ix (ix_tupK K) (pv 4) pe_int (fun _ _ => rfl)) (fun _ _ => rfl)) pa_nil))))
        (pss_one (ps_setComp (i := 2) scHeads.nd rfl (Or.inl rfl) (N' := ["head", "high", "low"]) (fr := [none, some 6, some 5]) (compOk_of (by rfl)) rfl (pi_seqK K .l (pv 2))
          (fun _ _ _ _ => pg_name (i := 0) nd3 rfl (Or.inl rfl) (Or.inr rfl)) (fun _ _ _ _ => pifs_nil)
          (fun _ _ _ _ => pe_ifExp (pt_cmpR op_eq (pv 0) (pv 1) (nomark _)) (pv 2) (pv 0))))))))
      (pss_one (ps_ret (pv 2)))), ?_⟩
    have i0 : atI ([.int m, .ref d] : List V) 0 = some (.int m) := atI_nat (j := 0) rfl
    have i1 : atI ([.int m, .ref d] : List V) 1 = some (.ref d) := atI_nat (j := 1) rfl
    refine ⟨_, rfl, c, _, _, _, rfl, rfl, SqT.of hc, i0, _, rfl, fun p hp => ⟨p, m, rfl, upd_same, by lia, fun l hl => ?_⟩⟩
    have s1 := (Same.new (o := HO.rng 0 m) hp).trans (Same.new (o := HO.lst (upN m)) hl)
    have hl1 : (upd (upd H p (.rng 0 m)) l (.lst (upN m))) l = some (.lst ((ups m).map V.int)) := by rw [upd_same, upN_ups]
    generalize upd (upd H p (.rng 0 m)) l (.lst (upN m)) = H1 at s1 hl1 ⊢
    refine ⟨_, rfl, pk, rfl, ⟨_, s1.tup hk⟩, for_seqK (k := .t) (K := K) (a := pk) (xs := ks.map V.int) (fun i σ H' => ∃ l u v t r, σ = [some (.ref c), some (.ref pk), some (.ref l), u, v, t, r] /\ Same H H' /\ H' l = some (.lst ((hdF ps (ups m) (ks.take i)).map V.int))) ⟨l, _, _, _, _, rfl, s1, hl1⟩ (fun i σ H' _ ⟨_, _, _, _, _, _, z, _⟩ => z.tup hk) ?_ ?_⟩
    · rintro i x σ H' hx ⟨l, u, v, t, r, rfl, sm, hl⟩
      obtain ⟨k, ek, rfl⟩ : ∃ k, ks[i]? = some k /\ V.int k = x := by
        rw [List.getElem?_map] at hx
        cases e : ks[i]? with
        | none => rw [e] at hx; simp at hx
        | some k => rw [e] at hx; simp at hx; exact ⟨k, rfl, hx⟩
      obtain ⟨k0, kl⟩ := hks k (List.mem_of_getElem? ek)
      obtain ⟨tc, et, htc⟩ := at_tie ht k0 kl
      obtain ⟨b1, b2, b3, b4⟩ := tieN_in hb k0 kl
      generalize hhs : hdF ps (ups m) (ks.take i) = hs at hl
      have hsl : hs.length = m := by rw [<- hhs, hdF_len, ups_len]; simp
      have t0 : atI ([.int (tieN ps k).1, .int (tieN ps k).2] : List V) 0 = some (.int (tieN ps k).1) := atI_nat (j := 0) rfl
      have t1 : atI ([.int (tieN ps k).1, .int (tieN ps k).2] : List V) 1 = some (.int (tieN ps k).2) := atI_nat (j := 1) rfl
      have a0 := at_int (l := hs) (i := (tieN ps k).1) b1 (by lia)
      have a1 := at_int (l := hs) (i := (tieN ps k).2) b3 (by lia)
      have htc' := sm _ _ htc
      dsimp only [gName, List.set]
      refine ⟨_, rfl, c, _, _, _, rfl, rfl, SqT.of (sm _ _ hc), i1, _, rfl, d, _, _, _, rfl, rfl, SqT.of (sm _ _ hd), et, ?_⟩
      refine ⟨_, rfl, _, rfl, tc, _, _, _, rfl, rfl, SqT.of htc', t0, l, _, _, _, rfl, rfl, SqL.of hl, a0, _, rfl, _, rfl, tc, _, _, _, rfl, rfl, SqT.of htc', t1, l, _, _, _, rfl, rfl, SqL.of hl, a1, _, _, rfl, ?_⟩
      refine ⟨_, rfl, _, rfl, tc, _, _, _, rfl, rfl, SqT.of htc', t0, l, _, _, _, rfl, rfl, SqL.of hl, a0, _, rfl, _, rfl, tc, _, _, _, rfl, rfl, SqT.of htc', t1, l, _, _, _, rfl, rfl, SqL.of hl, a1, _, _, rfl, ?_⟩
      generalize hlow : (if at0 hs (tieN ps k).2 < at0 hs (tieN ps k).1 then at0 hs (tieN ps k).2 else at0 hs (tieN ps k).1) = low
      generalize hhigh : (if at0 hs (tieN ps k).2 > at0 hs (tieN ps k).1 then at0 hs (tieN ps k).2 else at0 hs (tieN ps k).1) = high
      refine ⟨_, rfl, l, rfl, ⟨_, SqL.of hl⟩, comp_seq (k := .l) (a := l) (xs := hs.map V.int) (fun σ => ∃ v, σ = [v, some (.int high), some (.int low)]) (fun j ys H2 => H2 = H' /\ ys = (hs.take j).map fun h => V.int (if h = high then low else h)) ⟨_, rfl⟩ ⟨rfl, rfl⟩ (by rw [List.length_map]; exact ten_line (by lia)) (fun j ys H2 _ z => SqL.of (by rw [z.1]; exact hl)) ?_ ?_⟩
      · rintro j x ys σ H2 N hx ⟨u, rfl⟩ ⟨rfl, rfl⟩ hN
        obtain ⟨h0, eh, rfl⟩ : ∃ h0, hs[j]? = some h0 /\ V.int h0 = x := by
          rw [List.getElem?_map] at hx
          cases e : hs[j]? with
          | none => rw [e] at hx; simp at hx
          | some k => rw [e] at hx; simp at hx; exact ⟨k, rfl, hx⟩
        dsimp only [gName, List.set]
        refine yesT ?_
        refine ⟨_, rfl, _, rfl, rfl, _, rfl, ?_⟩
        by_cases he : h0 = high
        · rw [decide_eq_true (show V.int h0 = V.int high by rw [he])]
          refine iteT ⟨_, rfl, ?_⟩
          refine hN _ _ _ ⟨_, rfl⟩ ⟨rfl, ?_⟩ (by simp)
          rw [take_succ_of eh, List.map_append, List.map_cons, List.map_nil, if_pos he]
        · rw [decide_eq_false (show ¬ V.int h0 = V.int high from fun z => he (by injection z))]
          refine iteF ⟨_, rfl, ?_⟩
          refine hN _ _ _ ⟨_, rfl⟩ ⟨rfl, ?_⟩ (by simp)
          rw [take_succ_of eh, List.map_append, List.map_cons, List.map_nil, if_neg he]
      · rintro ys H2 ⟨rfl, rfl⟩ p2 hp2
        refine ⟨p2, _, _, _, _, rfl, sm.trans (Same.new hp2), ?_⟩
        rw [upd_same, take_succ_of ek, hdF_snoc, hhs]
        unfold stepH
        rw [hlow, hhigh, List.length_map, List.take_length, List.map_map]
        rfl
    · rintro σ H' ⟨l, u, v, t, r, rfl, sm, hl⟩
      rw [List.length_map, List.take_length] at hl
      exact ⟨_, rfl, q l H' sm hl⟩
end
def spWPF : Sp := fun vs H Q _ => ∃ (wv : V) (n : Int) (ps : List (Int × Int)), vs = [wv] /\ WebAt H wv n ps /\ ps.length <= 8 /\ ∀ t H', Same H H' -> FzT H' t ((ups ps.length).map V.int) -> Q (.ref t) H'
section
variable {P : Program} {w : World} {K : W.Frag} {mg : Str -> Option Value} {base : Heap}
theorem scWP : FnScope ["web"] ["web"] (defScope sWhole) := ⟨rfl, rfl, rfl, by decide +kernel, rfl, by decide +kernel, by decide +kernel⟩
theorem d_wp (T : Txt K mg) (S : Src K mg "whole_pick" sWhole ["web"]) : Def P w K mg base 1 "whole_pick" ["web"] spWPF := by
  refine S.def scWP (fun vs H Q E h => ?_) (fun f cdv A outer s H vs Q E hr h => ?_)
  · obtain ⟨i, _, _, rfl, _⟩ := h; rfl
  · obtain ⟨wv, n, ps, rfl, W, hl8, q⟩ := h
    obtain ⟨c, d, xs, rfl, hc, hd, ht⟩ := W.ex
    have xl : xs.length = ps.length := Paired.length ht
    refine ⟨_, pss_one (ps_ret (pe_callTy (call_tuple_rngF rfl) rfl T.tuple boot_tuple' (pa_cons (pe_callTy call_range1 rfl T.range boot_range' (pa_cons (pe_callB (call_lenK K) (by rfl) T.len PySem.boot_len (pa_cons (pe_ix (ix_tupK K) (pv 0) pe_int (fun _ _ => rfl)) pa_nil)) pa_nil)) pa_nil))), ?_⟩
    have i1 : atI ([.int n, .ref d] : List V) 1 = some (.ref d) := atI_nat (j := 1) rfl
    refine ⟨_, rfl, c, _, _, _, rfl, rfl, SqT.of hc, i1, d, xs, rfl, .inr (SqT.of hd), _, rfl, fun p hp => ⟨p, xs.length, rfl, upd_same, by lia, fun l o oc od hl => ?_⟩⟩
    refine q l _ ((Same.new hp).trans (Same.new hl)) ?_
    rw [upN_ups, xl]
    exact FzT.new oc od
end
end My
namespace My
open PySem L2 PyProof.Rows
theorem at_map {l : List Int} {f : Int -> Int} {i : Int} (h0 : 0 <= i) (h : i < l.length) : at0 (l.map f) i = f (at0 l i) := getD_map (by lia)
theorem at_ups {n i : Int} (h0 : 0 <= i) (h : i < n) : at0 (ups n) i = i := by
  have : i.toNat < n.toNat := by lia
  unfold at0 ups
  simp [List.getD, this]
  lia
theorem mem_ups {n i : Int} : i ∈ ups n ↔ 0 <= i /\ i < n := by
  unfold ups
  rw [List.mem_map]
  constructor
  · rintro ⟨j, hj, rfl⟩
    have := List.mem_range.mp hj
    lia
  · rintro ⟨a, b⟩
    exact ⟨i.toNat, List.mem_range.mpr (by lia), by lia⟩
theorem ups_up (n : Int) : (ups n).Pairwise (· < ·) := by
  unfold ups
  rw [List.pairwise_map]
  exact List.pairwise_lt_range.imp fun h => by lia
theorem ups_snoc {j : Int} (h : 0 <= j) : ups (j + 1) = ups j ++ [j] := by
  unfold ups
  rw [show (j + 1).toNat = j.toNat + 1 by lia, List.range_succ, List.map_append]
  simp
  exact Int.max_eq_left h
structure GH (n : Int) (ps : List (Int × Int)) (ks hs : List Int) : Prop where
  len : (hs.length : Int) = n
  le : ∀ i, 0 <= i -> i < n -> 0 <= at0 hs i /\ at0 hs i <= i
  idem : ∀ i, 0 <= i -> i < n -> at0 hs (at0 hs i) = at0 hs i
  join : ∀ k ∈ ks, at0 hs (tieN ps k).1 = at0 hs (tieN ps k).2
  cl : ∀ F : Int -> Prop, (∀ k ∈ ks, (F (tieN ps k).1 ↔ F (tieN ps k).2)) -> ∀ i, 0 <= i -> i < n -> (F i ↔ F (at0 hs i))
theorem gh_start {n : Int} (h1 : 1 <= n) (ps : List (Int × Int)) : GH n ps [] (ups n) where
  len := by rw [ups_len]; lia
  le i a b := by rw [at_ups a b]; lia
  idem i a b := by rw [at_ups a b, at_ups a b]
  join k hk := nomatch hk
  cl F _ i a b := by rw [at_ups a b]
theorem gh_step {n : Int} {ps : List (Int × Int)} {ks hs : List Int} {k : Int} (G : GH n ps ks hs) (hall : ∀ k ∈ ks, InN n (tieN ps k)) (hp : InN n (tieN ps k)) : GH n ps (ks ++ [k]) (stepH hs (tieN ps k)) := by
  generalize hp' : tieN ps k = p at hp ⊢
  obtain ⟨a1, a2, b1, b2⟩ := id hp
  have ln := G.len
  by_cases he : at0 hs p.1 = at0 hs p.2
  · rw [stepH_same he]
    refine ⟨G.len, G.le, G.idem, fun j hj => ?_, fun F hF i h0 hi => G.cl F (fun j hj => hF j (List.mem_append_left _ hj)) i h0 hi⟩
    rcases List.mem_append.mp hj with z | z
    · exact G.join j z
    · rw [List.mem_singleton.mp z, hp']; exact he
  · obtain ⟨low, high, lh, es, fl, fh, lp, lle, dom⟩ : ∃ low high, low < high /\ stepH hs p = hs.map (fun x => if x = high then low else x) /\ at0 hs low = low /\ at0 hs high = high /\ 0 <= low /\ high < n /\ ((at0 hs p.1 = low /\ at0 hs p.2 = high) \/ (at0 hs p.1 = high /\ at0 hs p.2 = low)) := by
      have la := G.le p.1 a1 a2
      have lb := G.le p.2 b1 b2
      have ia := G.idem p.1 a1 a2
      have ib := G.idem p.2 b1 b2
      by_cases hlt : at0 hs p.2 < at0 hs p.1
      · refine ⟨at0 hs p.2, at0 hs p.1, hlt, ?_, ib, ia, lb.1, by lia, .inr ⟨rfl, rfl⟩⟩
        unfold stepH
        rw [if_neg (by lia), if_pos hlt]
      · refine ⟨at0 hs p.1, at0 hs p.2, by lia, ?_, ia, ib, la.1, by lia, .inl ⟨rfl, rfl⟩⟩
        unfold stepH
        rw [if_pos (by lia), if_neg hlt]
    rw [es]
    have am : ∀ i, 0 <= i -> i < n -> at0 (hs.map fun x => if x = high then low else x) i = if at0 hs i = high then low else at0 hs i := fun i h0 hi => at_map h0 (by lia)
    refine ⟨by rw [List.length_map]; exact ln, fun i h0 hi => ?_, fun i h0 hi => ?_, fun j hj => ?_, fun F hF i h0 hi => ?_⟩
    · rw [am i h0 hi]
      have := G.le i h0 hi
      split <;> lia
    · rw [am i h0 hi]
      have l1 := G.le i h0 hi
      by_cases c : at0 hs i = high
      · rw [if_pos c, am low lp (by lia), fl, if_neg (by lia)]
      · rw [if_neg c, am (at0 hs i) l1.1 (by lia), G.idem i h0 hi, if_neg c]
    · have inj : InN n (tieN ps j) := by
        rcases List.mem_append.mp hj with z | z
        · exact hall j z
        · rw [List.mem_singleton.mp z, hp']; exact hp
      obtain ⟨c1, c2, c3, c4⟩ := inj
      rw [am _ c1 c2, am _ c3 c4]
      rcases List.mem_append.mp hj with z | z
      · rw [G.join j z]
      · rw [List.mem_singleton.mp z, hp']
        rcases dom with ⟨d1, d2⟩ | ⟨d1, d2⟩ <;> rw [d1, d2] <;> simp
    · have old := G.cl F (fun j hj => hF j (List.mem_append_left _ hj))
      have fp : F p.1 ↔ F p.2 := by have := hF k (by simp); rw [hp'] at this; exact this
      rw [am i h0 hi, old i h0 hi]
      by_cases c : at0 hs i = high
      · rw [if_pos c, c]
        have o1 := old p.1 a1 a2
        have o2 := old p.2 b1 b2
        rcases dom with ⟨d1, d2⟩ | ⟨d1, d2⟩
        · rw [d1] at o1; rw [d2] at o2
          exact o2.symm.trans (fp.symm.trans o1)
        · rw [d1] at o1; rw [d2] at o2
          exact o1.symm.trans (fp.trans o2)
      · rw [if_neg c]
theorem gh_go {n : Int} {ps : List (Int × Int)} : ∀ (ks done hs : List Int), (∀ k ∈ done ++ ks, InN n (tieN ps k)) -> GH n ps done hs -> GH n ps (done ++ ks) (hdF ps hs ks)
  | [], done, hs, _, G => by rw [List.append_nil]; exact G
  | k :: ks, done, hs, h, G => by
    have := gh_go ks (done ++ [k]) (stepH hs (tieN ps k)) (by rw [List.append_assoc]; exact h) (gh_step G (fun j hj => h j (List.mem_append_left _ hj)) (h k (by simp)))
    rw [List.append_assoc] at this
    exact this
theorem gh_run {n : Int} {ps : List (Int × Int)} {ks : List Int} (h1 : 1 <= n) (hb : ∀ p ∈ ps, InN n p) (hk : Ks ps.length ks) : GH n ps ks (hdF ps (ups n) ks) :=
  gh_go ks [] (ups n) (fun k h => tieN_in hb (hk k h).1 (hk k h).2) (gh_start h1 ps)
def under (n : Int) (hs : List Int) (h : Int) : List Int := (ups n).filter fun i => decide (at0 hs i = h)
def hpts (n : Int) (hs : List Int) : List Int := (ups n).filter fun i => decide (at0 hs i = i)
def parts (n : Int) (hs : List Int) : List (List Int) := (hpts n hs).map (under n hs)
theorem mem_hpts {n : Int} {hs : List Int} {i : Int} : i ∈ hpts n hs ↔ (0 <= i /\ i < n) /\ at0 hs i = i := by
  unfold hpts; rw [List.mem_filter, mem_ups, decide_eq_true_iff]
theorem hpts_up (n : Int) (hs : List Int) : (hpts n hs).Pairwise (· <= ·) := ((ups_up n).filter _).imp fun h => by lia
theorem perm_up {l m : List Int} (p : l.Perm m) (h1 : l.Pairwise (· <= ·)) (h2 : m.Pairwise (· <= ·)) : l = m := List.Perm.eq_of_pairwise (fun a b _ _ h1 h2 => by lia) h1 h2 p
theorem same_perm {l m : List Int} (h1 : l.Nodup) (h2 : m.Nodup) (h : ∀ i, i ∈ l ↔ i ∈ m) : l.Perm m := (List.perm_ext_iff_of_nodup h1 h2).mpr h
theorem met_heads {n : Int} {ps : List (Int × Int)} {ks hs : List Int} (G : GH n ps ks hs) : ∀ j : Nat, (j : Int) <= n -> firstMet (fun i => hs.getD i 0) j = (ups j).filter fun i => decide (at0 hs i = i)
  | 0, _ => rfl
  | j + 1, h => by
    have ih := met_heads G j (by lia)
    have l1 := G.le j (by lia) (by lia)
    have l2 := G.idem j (by lia) (by lia)
    have ej : hs.getD j 0 = at0 hs j := rfl
    rw [firstMet_succ, ih, show ((j + 1 : Nat) : Int) = (j : Int) + 1 by lia, ups_snoc (by lia), List.filter_append, ej]
    unfold step_dedup
    by_cases c : at0 hs j = (j : Int)
    · have : (((ups j).filter fun i => decide (at0 hs i = i)).any (· == at0 hs j)) = false := by
        rw [List.any_eq_false]
        intro x hx e
        have : x = at0 hs j := by simpa using e
        have := (mem_ups.mp (List.mem_filter.mp hx).1).2
        lia
      rw [this]
      simp [c]
    · have : (((ups j).filter fun i => decide (at0 hs i = i)).any (· == at0 hs j)) = true := by
        rw [List.any_eq_true]
        exact ⟨at0 hs j, List.mem_filter.mpr ⟨mem_ups.mpr ⟨l1.1, by lia⟩, by simpa using l2⟩, by simp⟩
      rw [this]
      simp [c]
theorem tables_b : ∀ b1 b2 b3 b4 b5 b6 b7 b8 : Bool, goesOn (tabOf true (0 :: (([(1, b1), (2, b2), (3, b3), (4, b4), (5, b5), (6, b6), (7, b7), (8, b8)] : List (Int × Bool)).filter (·.2)).map (·.1))).2 (0 :: (([(1, b1), (2, b2), (3, b3), (4, b4), (5, b5), (6, b6), (7, b7), (8, b8)] : List (Int × Bool)).filter (·.2)).map (·.1)).length = true := by decide +kernel
theorem filter_b (q : Int -> Bool) : ∀ l : List Int, l.filter q = ((l.map fun x => (x, q x)).filter (·.2)).map (·.1)
  | [] => rfl
  | x :: l => by
    rw [List.map_cons, List.filter_cons, List.filter_cons]
    show (if q x = true then _ else _) = (if q x = true then _ else _ : List (Int × Bool)).map _
    split
    · rw [List.map_cons, <- filter_b q l]
    · exact filter_b q l
theorem ups9 {n : Int} (h1 : 1 <= n) (h9 : n <= 9) : ups n = (ups 9).filter fun i => decide (i < n) := by
  rcases nine h1 h9 with rfl | rfl | rfl | rfl | rfl | rfl | rfl | rfl | rfl <;> decide +kernel
theorem heads_go {n : Int} {ps : List (Int × Int)} {ks hs : List Int} (h1 : 1 <= n) (h9 : n <= 9) (G : GH n ps ks hs) : goesOn (tabOf true (hpts n hs)).2 (hpts n hs).length = true := by
  have e : hpts n hs = 0 :: ([1, 2, 3, 4, 5, 6, 7, 8] : List Int).filter fun i => decide (at0 hs i = i) && decide (i < n) := by
    unfold hpts
    rw [ups9 h1 h9, List.filter_filter]
    have z := G.le 0 (by lia) (by lia)
    show ([0, 1, 2, 3, 4, 5, 6, 7, 8] : List Int).filter _ = _
    rw [List.filter_cons, if_pos]
    have : at0 hs 0 = 0 := by lia
    rw [decide_eq_true this, decide_eq_true (show (0 : Int) < n by lia)]
    rfl
  rw [e, filter_b]
  exact tables_b _ _ _ _ _ _ _ _
end My
namespace My
open PySem L2
theorem comp_enum {k : Kd} {K : W.Frag} {a : Addr} {xs : List V} {g : TG} {tt : TT} {te : TE} {fin : List V -> Hp -> Prop} {σ : St} {H : Hp} (S : St -> Prop) (Pv : Nat -> List V -> Hp -> Prop) (hσ : S σ) (h0 : Pv 0 [] H) (hz : xs.length < sizeLine)
    (hl : ∀ i ys H, i <= xs.length -> Pv i ys H -> SqK k K H a xs)
    (hs : ∀ (i : Nat) (x : V) (p : Addr) (ys : List V) (σ : St) (H : Hp) (N : List V -> St -> Hp -> Prop), xs[i]? = some x -> S σ -> Pv i ys H -> H p = none -> (∀ ys' σ' H', S σ' -> Pv (i + 1) ys' H' -> ys'.length <= ys.length + 1 -> N ys' σ' H') ->
      g (.ref p) σ (upd H p (.tup [.int i, x])) fun σ2 H2 => tt σ2 H2 fun b H3 => if b = true then te σ2 H3 fun y H4 => N (ys ++ [y]) σ2 H4 else N ys σ2 H3)
    (hd : ∀ ys H, Pv xs.length ys H -> fin ys H) : ∃ W, CompW (ItE k K a) g tt te fin W /\ ∃ m, W 0 m [] σ H := by
  refine ⟨fun i m ys σ H => m = xs.length - i /\ i <= xs.length /\ ys.length <= i /\ S σ /\ Pv i ys H, ?_, xs.length, by simp, Nat.zero_le _, Nat.le_refl _, hσ, h0⟩
  rintro i m ys σ H ⟨rfl, hi, hy, hS, p⟩
  have q := hl i ys H hi p
  by_cases hlt : i < xs.length
  · refine .inr ⟨⟨xs, xs[i], q, by simp [hlt]⟩, by lia, fun x H' y => ?_⟩
    obtain ⟨r, x, hn, rfl, hx2, rfl⟩ := y
    exact hs i x r ys σ H (fun ys' σ' H'' => ∃ m', m' < xs.length - i /\ m' = xs.length - (i + 1) /\ i + 1 <= xs.length /\ ys'.length <= i + 1 /\ S σ' /\ Pv (i + 1) ys' H'') (hx2 xs q) hS p hn (fun ys' σ' H'' a b c => ⟨_, by lia, rfl, hlt, by lia, a, b⟩)
  · have e : i = xs.length := by lia
    subst e
    exact .inl ⟨⟨xs, q, Nat.le_refl _⟩, by lia, hd ys H p⟩
def PartAt (H0 H : Hp) (v : V) (ns : List Int) : Prop := ∃ a, v = .ref a /\ H0 a = none /\ H a = some (.lst (ns.map V.int))
theorem PartAt.same {H0 H H' : Hp} {v : V} {ns : List Int} (h : PartAt H0 H v ns) (e : Same H H') : PartAt H0 H' v ns := let ⟨a, h1, h2, h3⟩ := h; ⟨a, h1, h2, e _ _ h3⟩
theorem parts_same {H0 H H' : Hp} {xs : List V} {pp : List (List Int)} (h : Paired (PartAt H0 H) xs pp) (e : Same H H') : Paired (PartAt H0 H') xs pp := L2.Paired.mapP h fun _ _ q => q.same e
def spUnder (K : W.Frag) : Sp := fun vs H Q _ => ∃ (l : Addr) (n : Int) (hs : List Int) (h : Int), vs = [.ref l, .int h] /\ SqL K H l (hs.map V.int) /\ (hs.length : Int) = n /\ n <= 9 /\ ∀ p H', Same H H' -> H p = none -> H' p = some (.lst ((under n hs h).map V.int)) -> Q (.ref p) H'
def spClus (K : W.Frag) : Sp := fun vs H Q _ => ∃ (wv : V) (pk : Addr) (n : Int) (ps : List (Int × Int)) (ks : List Int), vs = [wv, .ref pk] /\ WebAt H wv n ps /\ 1 <= n /\ n <= 9 /\ (∀ p ∈ ps, InN n p) /\ SqT K H pk (ks.map V.int) /\ Ks ps.length ks /\
  ∀ l xs H', Same H H' -> H l = none -> H' l = some (.lst xs) -> Paired (PartAt H H') xs (parts n (hdF ps (ups n) ks)) -> Q (.ref l) H'
section
variable {P : Program} {w : World} {K : W.Frag} {mg : Str -> Option Value} {base : Heap}
theorem scUnder : FnScope ["heads", "head"] ["heads", "head"] (defScope sUnder) := ⟨rfl, rfl, rfl, by decide +kernel, rfl, by decide +kernel, by decide +kernel⟩
theorem nd3u : (["point", "own", "head"] : List Str).Nodup := by decide +kernel
theorem d_under (T : Txt K mg) (henum : mg "enumerate" = none) (S : Src K mg "points_under" sUnder ["heads", "head"]) : Def P w K mg base 1 "points_under" ["heads", "head"] (spUnder K) := by
  refine S.def scUnder (fun vs H Q E h => ?_) (fun f cdv A outer s H vs Q E hr h => ?_)
  · obtain ⟨_, _, _, _, rfl, _⟩ := h; rfl
  · obtain ⟨l, n, hs, h, rfl, hl, hlen, h9, q⟩ := h
    refine ⟨_, pss_one (ps_ret (pe_comp (N' := ["point", "own", "head"]) (fr := [none, none, some 1]) (compOk_of (by rfl)) rfl (pi_enumK K .l rfl henum (pa_cons (pv 0) pa_nil))
      (g := gTup K 2 (gCons (gName 0) (gCons (gName 1) gNil))) (fun _ _ _ _ => pg_tupK K 2 rfl (pgs_cons (pg_name (i := 0) nd3u rfl (Or.inl rfl) (Or.inr rfl)) (pgs_cons (pg_name (i := 1) nd3u rfl (Or.inl rfl) (Or.inr rfl)) pgs_nil)))
      (fun _ _ _ _ => pifs_one (pt_cmpR op_eq (pv 1) (pv 2) (nomark _))) (fun _ _ _ _ => pv 0))), ?_⟩
    refine ⟨_, rfl, l, _, rfl, hl, comp_enum (k := .l) (a := l) (xs := hs.map V.int) (fun σ => ∃ u v, σ = [u, v, some (.int h)]) (fun i ys H2 => Same H H2 /\ ys = ((ups i).filter fun j => decide (at0 hs j = h)).map V.int) ⟨_, _, rfl⟩ ⟨Same.refl H, rfl⟩ (by rw [List.length_map]; exact ten_line (by lia)) (fun j ys H2 _ z => z.1.seq hl) ?_ ?_⟩
    · rintro j x p ys σ H2 N hx ⟨u, v, rfl⟩ ⟨sm, rfl⟩ hp hN
      obtain ⟨h0, eh, rfl⟩ : ∃ h0, hs[j]? = some h0 /\ V.int h0 = x := by
        rw [List.getElem?_map] at hx
        cases e : hs[j]? with
        | none => rw [e] at hx; simp at hx
        | some k => rw [e] at hx; simp at hx; exact ⟨k, rfl, hx⟩
      refine ⟨p, _, rfl, SqT.of upd_same, rfl, _, _, rfl, _, _, rfl, rfl, ?_⟩
      dsimp only [List.set]
      have ea : at0 hs (j : Int) = h0 := by unfold at0; rw [Int.toNat_natCast, List.getD_eq_getElem?_getD, eh]; rfl
      have s2 := sm.trans (Same.new (o := HO.tup [.int j, .int h0]) hp)
      refine ⟨_, rfl, _, rfl, rfl, _, rfl, ?_⟩
      by_cases he : h0 = h
      · rw [decide_eq_true (show V.int h0 = V.int h by rw [he])]
        refine iteT ⟨_, rfl, hN _ _ _ ⟨_, _, rfl⟩ ⟨s2, ?_⟩ (by simp)⟩
        rw [show ((j + 1 : Nat) : Int) = (j : Int) + 1 by lia, ups_snoc (by lia), List.filter_append, List.map_append]
        simp [ea, he]
      · rw [decide_eq_false (show ¬ V.int h0 = V.int h from fun z => he (by injection z))]
        refine iteF (hN _ _ _ ⟨_, _, rfl⟩ ⟨s2, ?_⟩ (by simp))
        rw [show ((j + 1 : Nat) : Int) = (j : Int) + 1 by lia, ups_snoc (by lia), List.filter_append]
        simp [ea, he]
    · rintro ys H2 ⟨sm, rfl⟩ p hp
      refine q p _ (sm.trans (Same.new hp)) (sm.free hp) ?_
      rw [upd_same, List.length_map, hlen]
      rfl
theorem scClus : FnScope ["web", "pick", "heads"] ["web", "pick"] (defScope sClus) := ⟨rfl, rfl, rfl, by decide +kernel, rfl, by decide +kernel, by decide +kernel⟩
theorem nd2c : (["head", "heads"] : List Str).Nodup := by decide +kernel
theorem hpts_len {n : Int} {hs : List Int} : (hpts n hs).length <= n.toNat := by
  have := List.length_filter_le (fun i => decide (at0 hs i = i)) (ups n)
  rw [ups_len] at this
  exact this
theorem d_clus (T : Txt K mg) (hset : mg "set" = none) (hsor : mg "sorted" = none) (S : Src K mg "clusters_of" sClus ["web", "pick"]) (DH : Def P w K mg base 1 "heads_of" ["web", "pick"] (spHeads K)) (DU : Def P w K mg base 1 "points_under" ["heads", "head"] (spUnder K)) :
    Def P w K mg base 2 "clusters_of" ["web", "pick"] (spClus K) := by
  refine S.def scClus (fun vs H Q E h => ?_) (fun f cdv A outer s H vs Q E hr h => ?_)
  · obtain ⟨_, _, _, _, _, rfl, _⟩ := h; rfl
  · obtain ⟨wv, pk, n, ps, ks, rfl, W, n1, n9, hb, hk, hks, q⟩ := h
    have hr1 : Room 1 _ := hr.mono (by decide)
    refine ⟨_, pss_cons (ps_set (i := 2) scClus.nd rfl (Or.inr rfl) (pe_def DH hr1 rfl (pa_cons (pv 0) (pa_cons (pv 1) pa_nil))))
      (pss_one (ps_ret (pe_comp (N' := ["head", "heads"]) (fr := [none, some 2]) (compOk_of (by rfl)) rfl (pi_seqK K .l (pe_callB (call_sortedS rfl) (by rfl) hsor boot_sorted' (pa_cons (pe_callTy (call_setT rfl) rfl hset boot_set' (pa_cons (pv 2) pa_nil)) pa_nil)))
        (fun _ _ _ _ => pg_name (i := 0) nd2c rfl (Or.inl rfl) (Or.inr rfl)) (fun _ _ _ _ => pifs_nil) (fun _ _ _ _ => pe_def DU hr1 rfl (pa_cons (pv 1) (pa_cons (pv 0) pa_nil)))))), ?_⟩
    have G := gh_run n1 hb hks
    refine ⟨_, rfl, _, rfl, wv, pk, n, ps, ks, rfl, W, n1, n9, hb, hk, hks, fun l H1 s1 hl => ?_⟩
    generalize hdF ps (ups n) ks = hs at hl G q
    have hlen := G.len
    have hm := met_heads G n.toNat (by lia)
    rw [show ((n.toNat : Nat) : Int) = n by lia] at hm
    change _ = hpts n hs at hm
    refine ⟨_, rfl, l, hs, rfl, SqL.of hl, by lia, fun m hm' => ?_, fun a ha => ?_⟩
    · obtain ⟨i, hi, rfl⟩ := List.getElem_of_mem hm'
      have := G.le i (by lia) (by lia)
      have e : at0 hs i = hs[i] := by unfold at0; rw [Int.toNat_natCast]; simp [List.getD, hi]
      lia
    have hn : hs.length = n.toNat := by lia
    rw [hn, hm]
    have s2 := Same.new (o := setO w a (hpts n hs)) ha
    refine ⟨a, hpts n hs, rfl, upd_same, by have := hpts_len (n := n) (hs := hs); lia, heads_go n1 n9 G, fun b ms pm up hb' => ?_⟩
    have em : ms = hpts n hs := perm_up pm up (hpts_up n hs)
    rw [em]
    dsimp only [cxOf, Cx.nox] at hb' ⊢
    have s3 := Same.new (o := HO.lst ((hpts n hs).map V.int)) hb'
    have h3 : (upd (upd H1 a (setO w a (hpts n hs))) b (.lst ((hpts n hs).map V.int))) b = some (.lst ((hpts n hs).map V.int)) := upd_same
    have s13 := s1.trans (s2.trans s3)
    have hl3 := s3 _ _ (s2 _ _ hl)
    generalize upd (upd H1 a (setO w a (hpts n hs))) b (.lst ((hpts n hs).map V.int)) = H3 at h3 s13 hl3 ⊢
    refine ⟨b, rfl, ⟨_, SqL.of h3⟩, comp_seq (k := .l) (a := b) (xs := (hpts n hs).map V.int) (fun σ => ∃ u, σ = [u, some (.ref l)]) (fun i ys H2 => Same H3 H2 /\ Paired (PartAt H H2) ys (((hpts n hs).take i).map (under n hs))) ⟨_, rfl⟩ ⟨Same.refl _, .nil⟩ (by rw [List.length_map]; exact ten_line (by have := hpts_len (n := n) (hs := hs); lia)) (fun j ys H2 _ z => z.1.seq (SqL.of h3)) ?_ ?_⟩
    · rintro j x ys σ H2 N hx ⟨u, rfl⟩ ⟨sm, pp⟩ hN
      obtain ⟨h0, eh, rfl⟩ : ∃ h0, (hpts n hs)[j]? = some h0 /\ V.int h0 = x := by
        rw [List.getElem?_map] at hx
        cases e : (hpts n hs)[j]? with
        | none => rw [e] at hx; simp at hx
        | some k => rw [e] at hx; simp at hx; exact ⟨k, rfl, hx⟩
      dsimp only [gName, List.set]
      refine yesT ?_
      refine ⟨_, rfl, _, rfl, l, n, hs, h0, rfl, SqL.of (sm _ _ hl3), hlen, n9, fun p H4 s4 fp hp => ?_⟩
      refine hN _ _ _ ⟨_, rfl⟩ ⟨sm.trans s4, ?_⟩ (by simp)
      rw [take_succ_of eh, List.map_append]
      exact L2.Paired.snoc (parts_same pp s4) ⟨p, rfl, (s13.trans sm).free fp, hp⟩
    · rintro ys H2 ⟨sm, pp⟩ p hp
      rw [List.length_map, List.take_length] at pp
      exact q p ys _ ((s13.trans sm).trans (Same.new hp)) ((s13.trans sm).free hp) upd_same (parts_same pp (Same.new hp))
end
theorem nd_sub84 {α : Type} [DecidableEq α] : ∀ {l m : List α}, l.Nodup -> (∀ x ∈ l, x ∈ m) -> l.length <= m.length
  | [], _, _, _ => Nat.zero_le _
  | a :: l, m, nd, h => by
    obtain ⟨n1, n2⟩ := List.nodup_cons.mp nd
    have ha := h a List.mem_cons_self
    have := nd_sub84 (l := l) (m := m.erase a) n2 fun x hx => (List.mem_erase_of_ne (fun e => n1 (by rw [<- e]; exact hx))).mpr (h x (List.mem_cons_of_mem _ hx))
    have e := List.length_erase_of_mem ha
    have : 0 < m.length := List.length_pos_of_mem ha
    rw [List.length_cons]
    lia
structure PermOn (f : Nat -> Nat) (N : Nat) : Prop where
  lt : ∀ x, x < N -> f x < N
  inj : ∀ x y, x < N -> y < N -> f x = f y -> x = y
def itr (f : Nat -> Nat) (x : Nat) : Nat -> Nat
  | 0 => x
  | k + 1 => f (itr f x k)
theorem itr_add (f : Nat -> Nat) (x a : Nat) : ∀ b, itr f x (a + b) = itr f (itr f x a) b
  | 0 => rfl
  | b + 1 => by show f (itr f x (a + b)) = f (itr f (itr f x a) b); rw [itr_add f x a b]
theorem PermOn.itr_lt {f : Nat -> Nat} {N x : Nat} (P : PermOn f N) (hx : x < N) : ∀ k, itr f x k < N
  | 0 => hx
  | k + 1 => P.lt _ (P.itr_lt hx k)
theorem PermOn.itr_inj {f : Nat -> Nat} {N : Nat} (P : PermOn f N) : ∀ (k x y : Nat), x < N -> y < N -> itr f x k = itr f y k -> x = y
  | 0, x, y, _, _, h => h
  | k + 1, x, y, hx, hy, h => P.itr_inj k x y hx hy (P.inj _ _ (P.itr_lt hx k) (P.itr_lt hy k) h)
theorem twice : ∀ (N : Nat) (g : Nat -> Nat), (∀ i, i <= N -> g i < N) -> ∃ i j, i < j /\ j <= N /\ g i = g j := fun N g h => by
  refine Classical.byContradiction fun hn => ?_
  have inj : ∀ i j, i <= N -> j <= N -> g i = g j -> i = j := fun i j hi hj e => by
    by_cases c : i = j
    · exact c
    · exfalso
      by_cases c2 : i < j
      · exact hn ⟨i, j, c2, hj, e⟩
      · exact hn ⟨j, i, by lia, hi, e.symm⟩
  have nd : ((List.range (N + 1)).map g).Nodup := by
    rw [List.nodup_iff_pairwise_ne, List.pairwise_map]
    refine List.pairwise_lt_range.imp_of_mem fun ha hb hab e => ?_
    have h1 := List.mem_range.mp ha
    have h2 := List.mem_range.mp hb
    have := inj _ _ (by lia) (by lia) e
    lia
  have len := nd_sub84 nd (m := List.range N) fun x hx => by
    obtain ⟨i, hi, rfl⟩ := List.mem_map.mp hx
    exact List.mem_range.mpr (h i (by have := List.mem_range.mp hi; lia))
  rw [List.length_map, List.length_range, List.length_range] at len
  lia
theorem PermOn.back {f : Nat -> Nat} {N x : Nat} (P : PermOn f N) (hx : x < N) : ∃ k, 1 <= k /\ k <= N /\ itr f x k = x := by
  obtain ⟨i, j, hij, hj, e⟩ := twice N (itr f x) fun i _ => P.itr_lt hx i
  refine ⟨j - i, by lia, by lia, ?_⟩
  have : itr f (itr f x (j - i)) i = itr f x i := by rw [<- itr_add, show j - i + i = j by lia, e]
  exact P.itr_inj i _ _ (P.itr_lt hx _) hx this
structure Per (f : Nat -> Nat) (x k : Nat) : Prop where
  pos : 1 <= k
  back : itr f x k = x
  no : ∀ i, 1 <= i -> i < k -> itr f x i ≠ x
theorem PermOn.per {f : Nat -> Nat} {N x : Nat} (P : PermOn f N) (hx : x < N) : ∃ k, k <= N /\ Per f x k := by
  obtain ⟨k, k1, kN, e⟩ := P.back hx
  obtain ⟨m, hm, ⟨m1, me⟩, mn⟩ := least (fun k => 1 <= k /\ itr f x k = x) k ⟨k1, e⟩
  exact ⟨m, by lia, m1, me, fun i h1 h2 z => mn i h2 ⟨h1, z⟩⟩
theorem Per.uniq {f : Nat -> Nat} {x a b : Nat} (h1 : Per f x a) (h2 : Per f x b) : a = b := by
  by_cases c : a < b
  · exact absurd h1.back (h2.no a h1.pos c)
  · by_cases c2 : b < a
    · exact absurd h2.back (h1.no b h2.pos c2)
    · lia
noncomputable def per (f : Nat -> Nat) (x : Nat) : Nat := open Classical in if h : ∃ k, Per f x k then Classical.choose h else 0
theorem per_is {f : Nat -> Nat} {x k : Nat} (h : Per f x k) : per f x = k := by
  unfold per
  rw [dif_pos ⟨k, h⟩]
  exact (Classical.choose_spec (⟨k, h⟩ : ∃ k, Per f x k)).uniq h
noncomputable def rnd (f : Nat -> Nat) (x : Nat) : List Nat := (List.range (per f x)).map (itr f x)
inductive Cn (f : Nat -> Nat) (N : Nat) : Nat -> Nat -> Prop
  | refl (x : Nat) : Cn f N x x
  | step {x : Nat} : x < N -> Cn f N x (f x)
  | symm {x y : Nat} : Cn f N x y -> Cn f N y x
  | trans {x y z : Nat} : Cn f N x y -> Cn f N y z -> Cn f N x z
theorem cn_itr {f : Nat -> Nat} {N x : Nat} (P : PermOn f N) (hx : x < N) : ∀ k, Cn f N x (itr f x k)
  | 0 => .refl x
  | k + 1 => .trans (cn_itr P hx k) (.step (P.itr_lt hx k))
theorem per_mod {f : Nat -> Nat} {x p : Nat} (h : Per f x p) : ∀ k, itr f x (k * p) = x
  | 0 => by rw [Nat.zero_mul]; rfl
  | k + 1 => by rw [Nat.succ_mul, itr_add, per_mod h k, h.back]
theorem itr_lt_per {f : Nat -> Nat} {x p : Nat} (h : Per f x p) (k : Nat) : itr f x k = itr f x (k % p) := by
  have e : k = (k / p) * p + k % p := by have := Nat.div_add_mod k p; rw [Nat.mul_comm] at this; lia
  have := itr_add f x (k / p * p) (k % p)
  rw [<- e, per_mod h] at this
  exact this
theorem cn_reach {f : Nat -> Nat} {N : Nat} (P : PermOn f N) {x y : Nat} (h : Cn f N x y) : (x < N ↔ y < N) /\ (x < N -> ∃ k, itr f x k = y) := by
  have main : (x < N ↔ y < N) /\ (x < N -> ∃ k, itr f x k = y) /\ (y < N -> ∃ k, itr f y k = x) := by
    induction h with
    | refl x => exact ⟨Iff.rfl, fun _ => ⟨0, rfl⟩, fun _ => ⟨0, rfl⟩⟩
    | @step x hx =>
      refine ⟨⟨fun _ => P.lt x hx, fun _ => hx⟩, fun _ => ⟨1, rfl⟩, fun _ => ?_⟩
      obtain ⟨k, k1, _, e⟩ := P.back hx
      refine ⟨k - 1, ?_⟩
      have := itr_add f x 1 (k - 1)
      rw [show 1 + (k - 1) = k by lia, e] at this
      exact this.symm
    | symm _ ih => exact ⟨ih.1.symm, ih.2.2, ih.2.1⟩
    | trans _ _ ih1 ih2 =>
      refine ⟨ih1.1.trans ih2.1, fun hx => ?_, fun hz => ?_⟩
      · obtain ⟨a, ea⟩ := ih1.2.1 hx
        obtain ⟨b, eb⟩ := ih2.2.1 (ih1.1.mp hx)
        exact ⟨a + b, by rw [itr_add, ea, eb]⟩
      · obtain ⟨a, ea⟩ := ih2.2.2 hz
        obtain ⟨b, eb⟩ := ih1.2.2 (ih2.1.mpr hz)
        exact ⟨a + b, by rw [itr_add, ea, eb]⟩
  exact ⟨main.1, main.2.1⟩
theorem mem_rnd {f : Nat -> Nat} {N x y : Nat} (P : PermOn f N) (hx : x < N) : y ∈ rnd f x ↔ Cn f N x y := by
  obtain ⟨p, _, hp⟩ := P.per hx
  unfold rnd
  rw [per_is hp, List.mem_map]
  constructor
  · rintro ⟨i, _, rfl⟩
    exact cn_itr P hx i
  · intro h
    obtain ⟨k, rfl⟩ := (cn_reach P h).2 hx
    exact ⟨k % p, List.mem_range.mpr (Nat.mod_lt _ hp.pos), (itr_lt_per hp k).symm⟩
def swp (a b x : Nat) : Nat := if x = a then b else if x = b then a else x
theorem swp_a (a b : Nat) : swp a b a = b := by unfold swp; rw [if_pos rfl]
theorem swp_b (a b : Nat) : swp a b b = a := by unfold swp; split <;> simp_all
theorem swp_o {a b x : Nat} (h1 : x ≠ a) (h2 : x ≠ b) : swp a b x = x := by unfold swp; rw [if_neg h1, if_neg h2]
theorem swp_swp (a b x : Nat) : swp a b (swp a b x) = x := by
  by_cases h1 : x = a
  · rw [h1, swp_a, swp_b]
  · by_cases h2 : x = b
    · rw [h2, swp_b, swp_a]
    · rw [swp_o h1 h2, swp_o h1 h2]
theorem swp_lt {a b x N : Nat} (ha : a < N) (hb : b < N) (hx : x < N) : swp a b x < N := by unfold swp; split <;> (try split) <;> assumption
theorem PermOn.swap {f : Nat -> Nat} {N a b : Nat} (P : PermOn f N) (ha : a < N) (hb : b < N) : PermOn (fun x => f (swp a b x)) N where
  lt x hx := P.lt _ (swp_lt ha hb hx)
  inj x y hx hy e := by
    have := P.inj _ _ (swp_lt ha hb hx) (swp_lt ha hb hy) e
    rw [<- swp_swp a b x, this, swp_swp]
theorem swap_join {f : Nat -> Nat} {N a b : Nat} (P : PermOn f N) (ha : a < N) (hb : b < N) (ne : ¬ Cn f N a b) (x y : Nat) :
    Cn (fun x => f (swp a b x)) N x y ↔ (Cn f N x y \/ (Cn f N x a /\ Cn f N y b) \/ (Cn f N x b /\ Cn f N y a)) := by
  have nab : a ≠ b := fun z => ne (z ▸ .refl a)
  have ab : Cn (fun x => f (swp a b x)) N a b := by
    obtain ⟨p, _, hp⟩ := P.per hb
    have P' := P.swap ha hb
    have go : ∀ k, k + 1 <= p -> itr (fun x => f (swp a b x)) a (k + 1) = itr f b (k + 1) := by
      intro k
      induction k with
      | zero => intro _; show f (swp a b a) = f b; rw [swp_a]
      | succ k ih =>
        intro hk
        show f (swp a b (itr (fun x => f (swp a b x)) a (k + 1))) = f (itr f b (k + 1))
        rw [ih (by lia)]
        congr 1
        refine swp_o (fun z => ?_) (hp.no (k + 1) (by lia) (by lia))
        refine ne ?_
        rw [<- z]
        exact .symm (cn_itr P hb (k + 1))
    have := go (p - 1) (by have := hp.pos; lia)
    rw [show p - 1 + 1 = p by have := hp.pos; lia, hp.back] at this
    have c := cn_itr P' ha p
    rw [this] at c
    exact c
  constructor
  · intro h
    have one : ∀ x, x < N -> (Cn f N x (f (swp a b x)) \/ (Cn f N x a /\ Cn f N (f (swp a b x)) b) \/ (Cn f N x b /\ Cn f N (f (swp a b x)) a)) := fun x hx => by
      by_cases h1 : x = a
      · rw [h1, swp_a]
        exact .inr (.inl ⟨.refl a, .symm (.step hb)⟩)
      · by_cases h2 : x = b
        · rw [h2, swp_b]
          exact .inr (.inr ⟨.refl b, .symm (.step ha)⟩)
        · rw [swp_o h1 h2]
          exact .inl (.step hx)
    induction h with
    | refl x => exact .inl (.refl x)
    | @step x hx => exact one x hx
    | symm _ ih =>
      rcases ih with h | ⟨h1, h2⟩ | ⟨h1, h2⟩
      · exact .inl (.symm h)
      · exact .inr (.inr ⟨h2, h1⟩)
      · exact .inr (.inl ⟨h2, h1⟩)
    | trans _ _ ih1 ih2 =>
      rcases ih1 with h | ⟨h1, h2⟩ | ⟨h1, h2⟩ <;> rcases ih2 with k | ⟨k1, k2⟩ | ⟨k1, k2⟩
      · exact .inl (.trans h k)
      · exact .inr (.inl ⟨.trans h k1, k2⟩)
      · exact .inr (.inr ⟨.trans h k1, k2⟩)
      · exact .inr (.inl ⟨h1, .trans (.symm k) h2⟩)
      · exact absurd (.trans (.symm k1) h2) ne
      · exact .inl (.trans h1 (.symm k2))
      · exact .inr (.inr ⟨h1, .trans (.symm k) h2⟩)
      · exact .inl (.trans h1 (.symm k2))
      · exact absurd (.trans (.symm h2) k1) ne
  · have base : ∀ {x y}, Cn f N x y -> Cn (fun x => f (swp a b x)) N x y := fun h => by
      induction h with
      | refl x => exact .refl x
      | @step x hx =>
        by_cases h1 : x = a
        · rw [h1]
          have := Cn.step (f := fun x => f (swp a b x)) hb
          rw [swp_b] at this
          exact .trans ab this
        · by_cases h2 : x = b
          · rw [h2]
            have := Cn.step (f := fun x => f (swp a b x)) ha
            rw [swp_a] at this
            exact .trans (.symm ab) this
          · have := Cn.step (f := fun x => f (swp a b x)) hx
            rw [swp_o h1 h2] at this
            exact this
      | symm _ ih => exact .symm ih
      | trans _ _ ih1 ih2 => exact .trans ih1 ih2
    rintro (h | ⟨h1, h2⟩ | ⟨h1, h2⟩)
    · exact base h
    · exact .trans (base h1) (.trans ab (.symm (base h2)))
    · exact .trans (base h1) (.trans (.symm ab) (.symm (base h2)))
theorem swap_part {f : Nat -> Nat} {N a b : Nat} (P : PermOn f N) (ha : a < N) (hb : b < N) (nab : a ≠ b) (c : Cn f N a b) : ¬ Cn (fun x => f (swp a b x)) N a b := by
  obtain ⟨p, _, hp⟩ := P.per ha
  obtain ⟨k0, e0⟩ := (cn_reach P c).2 ha
  rw [itr_lt_per hp] at e0
  have kp : k0 % p < p := Nat.mod_lt _ hp.pos
  generalize k0 % p = k at e0 kp
  have k1 : 1 <= k := by
    by_cases z : k = 0
    · rw [z] at e0; exact absurd e0 nab
    · lia
  have dis : ∀ i j, i < j -> j < p -> itr f a i ≠ itr f a j := fun i j hij hj z => by
    have : itr f (itr f a (j - i)) i = itr f a i := by rw [<- itr_add, show j - i + i = j by lia, z]
    exact hp.no (j - i) (by lia) (by lia) (P.itr_inj i _ _ (P.itr_lt ha _) ha this)
  intro h
  have inv : ∀ {x y}, Cn (fun x => f (swp a b x)) N x y -> ((∃ i, k < i /\ i <= p /\ itr f a i = x) ↔ ∃ i, k < i /\ i <= p /\ itr f a i = y) := fun h => by
    induction h with
    | refl x => exact Iff.rfl
    | @step x hx =>
      constructor
      · rintro ⟨i, h1, h2, e⟩
        by_cases ip : i = p
        · have xa : x = a := by rw [<- e, ip, hp.back]
          rw [xa]
          rw [swp_a, <- e0]
          exact ⟨k + 1, by lia, by lia, rfl⟩
        · have n1 : x ≠ a := fun z => hp.no i (by lia) (by lia) (by rw [e, z])
          have n2 : x ≠ b := fun z => dis k i h1 (by lia) (by rw [e0, e, z])
          rw [swp_o n1 n2, <- e]
          exact ⟨i + 1, by lia, by lia, rfl⟩
      · rintro ⟨i, h1, h2, e⟩
        have e' : f (itr f a (i - 1)) = f (swp a b x) := by
          rw [<- e]
          have := itr_add f a (i - 1) 1
          rw [show i - 1 + 1 = i by lia] at this
          exact this.symm
        have e2 := P.inj _ _ (P.itr_lt ha _) (swp_lt ha hb hx) e'
        by_cases ik : i - 1 = k
        · rw [ik, e0] at e2
          have xa : x = a := by
            rw [<- swp_swp a b x, <- e2, swp_b]
          exact ⟨p, kp, Nat.le_refl _, by rw [hp.back, xa]⟩
        · have n1 : itr f a (i - 1) ≠ a := hp.no (i - 1) (by lia) (by lia)
          have n2 : itr f a (i - 1) ≠ b := fun z => dis k (i - 1) (by lia) (by lia) (by rw [e0, z])
          have : x = itr f a (i - 1) := by
            rw [<- swp_swp a b x, <- e2, swp_o n1 n2]
          exact ⟨i - 1, by lia, by lia, this.symm⟩
    | symm _ ih => exact ih.symm
    | trans _ _ ih1 ih2 => exact ih1.trans ih2
  obtain ⟨i, h1, h2, e⟩ := (inv h).mp ⟨p, kp, Nat.le_refl _, hp.back⟩
  by_cases ip : i = p
  · rw [ip, hp.back] at e; exact nab e
  · exact dis k i h1 (by lia) (by rw [e0, e])
theorem Cn.le {f : Nat -> Nat} {N : Nat} {T : Nat -> Nat -> Prop} (r : ∀ x, T x x) (s : ∀ x y, T x y -> T y x) (t : ∀ x y z, T x y -> T y z -> T x z) (h : ∀ x, x < N -> T x (f x)) {x y : Nat} (c : Cn f N x y) : T x y := by
  induction c with
  | refl x => exact r x
  | step hx => exact h _ hx
  | symm _ ih => exact s _ _ ih
  | trans _ _ ih1 ih2 => exact t _ _ _ ih1 ih2
theorem Cn.congr {f g : Nat -> Nat} {N : Nat} (h : ∀ x, x < N -> f x = g x) (x y : Nat) : Cn f N x y ↔ Cn g N x y :=
  ⟨Cn.le .refl (fun _ _ => .symm) (fun _ _ _ => .trans) fun x hx => by rw [h x hx]; exact .step hx, Cn.le .refl (fun _ _ => .symm) (fun _ _ _ => .trans) fun x hx => by rw [<- h x hx]; exact .step hx⟩
theorem PermOn.congr {f g : Nat -> Nat} {N : Nat} (P : PermOn f N) (h : ∀ x, x < N -> f x = g x) : PermOn g N :=
  ⟨fun x hx => by rw [<- h x hx]; exact P.lt x hx, fun x y hx hy e => P.inj x y hx hy (by rw [h x hx, h y hy, e])⟩
theorem PermOn.sur {f : Nat -> Nat} {N z : Nat} (P : PermOn f N) (hz : z < N) : ∃ u, u < N /\ f u = z := by
  obtain ⟨k, k1, _, e⟩ := P.back hz
  refine ⟨itr f z (k - 1), P.itr_lt hz _, ?_⟩
  have := itr_add f z (k - 1) 1
  rw [show k - 1 + 1 = k by lia, e] at this
  exact this.symm
structure Equ (R : Nat -> Nat -> Prop) : Prop where
  r : ∀ x, R x x
  s : ∀ {x y}, R x y -> R y x
  t : ∀ {x y z}, R x y -> R y z -> R x z
theorem cn_equ (f : Nat -> Nat) (N : Nat) : Equ (Cn f N) := ⟨.refl, .symm, .trans⟩
noncomputable def isRep (R : Nat -> Nat -> Prop) (x : Nat) : Bool := open Classical in decide (∀ y, y < x -> ¬ R x y)
theorem isRep_iff {R : Nat -> Nat -> Prop} {x : Nat} : isRep R x = true ↔ ∀ y, y < x -> ¬ R x y := by
  classical
  unfold isRep
  rw [decide_eq_true_iff]
noncomputable def reps (N : Nat) (R : Nat -> Nat -> Prop) : List Nat := (List.range N).filter (isRep R)
theorem mem_reps {N : Nat} {R : Nat -> Nat -> Prop} {x : Nat} : x ∈ reps N R ↔ x < N /\ ∀ y, y < x -> ¬ R x y := by
  unfold reps
  rw [List.mem_filter, List.mem_range]
  exact and_congr Iff.rfl isRep_iff
theorem reps_nd (N : Nat) (R : Nat -> Nat -> Prop) : (reps N R).Nodup := List.Pairwise.filter _ List.nodup_range
theorem reps_one {N : Nat} {R : Nat -> Nat -> Prop} (e : Equ R) {x y : Nat} (hx : x ∈ reps N R) (hy : y ∈ reps N R) (h : R x y) : x = y := by
  by_cases c : x < y
  · exact absurd (e.s h) ((mem_reps.mp hy).2 x c)
  · by_cases c2 : y < x
    · exact absurd h ((mem_reps.mp hx).2 y c2)
    · lia
theorem rep_ex {N : Nat} {R : Nat -> Nat -> Prop} (e : Equ R) {x : Nat} (hx : x < N) : ∃ r, r <= x /\ R x r /\ r ∈ reps N R := by
  obtain ⟨r, h1, h2, h3⟩ := least (fun y => R x y) x (e.r x)
  exact ⟨r, h1, h2, mem_reps.mpr ⟨by lia, fun y hy z => h3 y hy (e.t h2 z)⟩⟩
theorem join_aux {N a b ra rb : Nat} {R R' : Nat -> Nat -> Prop} (e : Equ R) (h : ∀ x y, R' x y ↔ (R x y \/ (R x a /\ R y b) \/ (R x b /\ R y a))) (h1 : R a ra) (h2 : R b rb) (m1 : ra ∈ reps N R) (m2 : rb ∈ reps N R) (lt : ra < rb) : (reps N R').length + 1 = (reps N R).length := by
  have p : (reps N R).Perm (rb :: reps N R') := by
    refine (List.perm_ext_iff_of_nodup (reps_nd N R) (List.nodup_cons.mpr ⟨fun z => ?_, reps_nd N R'⟩)).mpr fun x => ?_
    · exact (mem_reps.mp z).2 ra lt ((h rb ra).mpr (.inr (.inr ⟨e.s h2, e.s h1⟩)))
    · rw [List.mem_cons]
      constructor
      · intro hx
        by_cases c : x = rb
        · exact .inl c
        · refine .inr (mem_reps.mpr ⟨(mem_reps.mp hx).1, fun y hy z => ?_⟩)
          rcases (h x y).mp z with z | ⟨z1, z2⟩ | ⟨z1, z2⟩
          · exact (mem_reps.mp hx).2 y hy z
          · have := reps_one e hx m1 (e.t z1 h1)
            subst this
            exact (mem_reps.mp m2).2 y (by lia) (e.t (e.s h2) (e.s z2))
          · exact c (reps_one e hx m2 (e.t z1 h2))
      · rintro (rfl | hx)
        · exact m2
        · exact mem_reps.mpr ⟨(mem_reps.mp hx).1, fun y hy z => (mem_reps.mp hx).2 y hy ((h x y).mpr (.inl z))⟩
  have := p.length_eq
  rw [List.length_cons] at this
  lia
theorem join_len {N a b : Nat} {R R' : Nat -> Nat -> Prop} (e : Equ R) (ha : a < N) (hb : b < N) (ne : ¬ R a b) (h : ∀ x y, R' x y ↔ (R x y \/ (R x a /\ R y b) \/ (R x b /\ R y a))) : (reps N R').length + 1 = (reps N R).length := by
  obtain ⟨ra, _, h1, m1⟩ := rep_ex (N := N) e ha
  obtain ⟨rb, _, h2, m2⟩ := rep_ex (N := N) e hb
  by_cases c : ra < rb
  · exact join_aux e h h1 h2 m1 m2 c
  · have ne2 : ra ≠ rb := fun z => ne (e.t h1 (e.s (z ▸ h2)))
    refine join_aux (a := b) (b := a) e (fun x y => (h x y).trans ?_) h2 h1 m2 m1 (by lia)
    constructor
    · rintro (z | z | z)
      · exact .inl z
      · exact .inr (.inr z)
      · exact .inr (.inl z)
    · rintro (z | z | z)
      · exact .inl z
      · exact .inr (.inr z)
      · exact .inr (.inl z)
theorem len_by {l m : List Nat} (nd : l.Nodup) (T : Nat -> Nat -> Prop) (h : ∀ x ∈ l, ∃ z, z ∈ m /\ T x z) (inj : ∀ x y z, x ∈ l -> y ∈ l -> T x z -> T y z -> x = y) : l.length <= m.length := by
  have : ∃ g : Nat -> Nat, ∀ x ∈ l, g x ∈ m /\ T x (g x) := by
    refine ⟨fun x => open Classical in if q : ∃ z, z ∈ m /\ T x z then Classical.choose q else 0, fun x hx => ?_⟩
    dsimp only
    rw [dif_pos (h x hx)]
    exact Classical.choose_spec (h x hx)
  obtain ⟨g, hg⟩ := this
  have nd2 : (l.map g).Nodup := by
    rw [List.nodup_iff_pairwise_ne, List.pairwise_map]
    refine nd.imp_of_mem fun ha hb hab e => hab ?_
    exact inj _ _ _ ha hb (hg _ ha).2 (by rw [e]; exact (hg _ hb).2)
  have := nd_sub84 nd2 (m := m) fun x hx => by
    obtain ⟨y, hy, rfl⟩ := List.mem_map.mp hx
    exact (hg y hy).1
  rw [List.length_map] at this
  exact this
theorem bij_len {N : Nat} {τ : Nat -> Nat} {R R' : Nat -> Nat -> Prop} (P : PermOn τ N) (e : Equ R) (e' : Equ R') (h : ∀ x y, x < N -> y < N -> (R' (τ x) (τ y) ↔ R x y)) : (reps N R).length = (reps N R').length := by
  refine Nat.le_antisymm ?_ ?_
  · refine len_by (reps_nd N R) (fun x z => R' (τ x) z) (fun x hx => ?_) fun x y z hx hy h1 h2 => ?_
    · obtain ⟨r, _, h2, h3⟩ := rep_ex (N := N) e' (P.lt x (mem_reps.mp hx).1)
      exact ⟨r, h3, h2⟩
    · exact reps_one e hx hy ((h x y (mem_reps.mp hx).1 (mem_reps.mp hy).1).mp (e'.t h1 (e'.s h2)))
  · refine len_by (reps_nd N R') (fun z x => R' z (τ x)) (fun z hz => ?_) fun x y z hx hy h1 h2 => ?_
    · obtain ⟨u, hu, eu⟩ := P.sur (mem_reps.mp hz).1
      obtain ⟨r, _, h2, h3⟩ := rep_ex (N := N) e hu
      exact ⟨r, h3, by rw [<- eu]; exact (h u r hu (mem_reps.mp h3).1).mpr h2⟩
    · exact reps_one e' hx hy (e'.t h1 (e'.s h2))
theorem reps_two (N : Nat) (R : Nat -> Nat -> Prop) : reps (N + 2) R = reps N R ++ [N, N + 1].filter (isRep R) := by
  unfold reps
  rw [List.range_succ, List.range_succ, List.append_assoc, List.filter_append]
  rfl
theorem reps_congr {N : Nat} {R R' : Nat -> Nat -> Prop} (h : ∀ x y, x < N -> y < N -> (R x y ↔ R' x y)) : reps N R = reps N R' := by
  unfold reps
  refine List.filter_congr fun x hx => ?_
  have hx' := List.mem_range.mp hx
  rw [Bool.eq_iff_iff, isRep_iff, isRep_iff]
  exact ⟨fun a y hy z => a y hy ((h x y hx' (by lia)).mpr z), fun a y hy z => a y hy ((h x y hx' (by lia)).mp z)⟩
def fn (ts : List Nat) (i : Nat) : Nat := ts.getD i 0
def mate (x : Nat) : Nat := if x % 2 = 0 then x + 1 else x - 1
theorem mate_mate (x : Nat) : mate (mate x) = x := by
  unfold mate
  by_cases h : x % 2 = 0
  · rw [if_pos h, if_neg (by lia)]; lia
  · rw [if_neg h, if_pos (by lia)]; lia
theorem mate_lt {x m : Nat} (h : x < 2 * m) : mate x < 2 * m := by unfold mate; split <;> lia
theorem mate_ne (x : Nat) : mate x ≠ x := by unfold mate; split <;> lia
def phi (ts : List Nat) (x : Nat) : Nat := fn ts (mate x)
theorem PermOn.phi {ts : List Nat} {m : Nat} (P : PermOn (fn ts) (2 * m)) : PermOn (phi ts) (2 * m) :=
  ⟨fun x hx => P.lt _ (mate_lt hx), fun x y hx hy e => by
    have := P.inj _ _ (mate_lt hx) (mate_lt hy) e
    rw [<- mate_mate x, this, mate_mate]⟩
inductive Jn (ts : List Nat) : Nat -> Nat -> Prop
  | refl (x : Nat) : Jn ts x x
  | turn {x : Nat} : x < ts.length -> Jn ts x (fn ts x)
  | mate (x : Nat) : Jn ts x (mate x)
  | symm {x y : Nat} : Jn ts x y -> Jn ts y x
  | trans {x y z : Nat} : Jn ts x y -> Jn ts y z -> Jn ts x z
noncomputable def nV (ts : List Nat) : Nat := (reps ts.length (Cn (fn ts) ts.length)).length
noncomputable def nF (ts : List Nat) : Nat := (reps ts.length (Cn (phi ts) ts.length)).length
structure Drw (ts : List Nat) (m : Nat) : Prop where
  len : ts.length = 2 * m
  perm : PermOn (fn ts) (2 * m)
  joined : ∀ x, x < 2 * m -> Jn ts x 0
  plane : m = 0 \/ nV ts + nF ts = m + 2
def behind (l : List Nat) (e p : Nat) : List Nat := (l.set p (l.getD e 0)).set e p
theorem behind_len (l : List Nat) (e p : Nat) : (behind l e p).length = l.length := by unfold behind; rw [List.length_set, List.length_set]
theorem behind_fn {l : List Nat} {e p : Nat} (he : e < l.length) (hp : p < l.length) (hf : fn l p = p) (x : Nat) : fn (behind l e p) x = fn l (swp e p x) := by
  unfold behind fn
  rw [List.getD_eq_getElem?_getD]
  by_cases h1 : x = e
  · rw [h1, swp_a, List.getElem?_set_self (by rw [List.length_set]; exact he)]
    exact hf.symm
  · rw [List.getElem?_set_ne (Ne.symm h1)]
    by_cases h2 : x = p
    · rw [h2, swp_b, List.getElem?_set_self hp]
      rfl
    · rw [List.getElem?_set_ne (Ne.symm h2), swp_o h1 h2, List.getD_eq_getElem?_getD]
def two (ts : List Nat) : List Nat := ts ++ [ts.length, ts.length + 1]
theorem two_old {ts : List Nat} {x : Nat} (h : x < ts.length) : fn (two ts) x = fn ts x := by
  unfold fn two
  rw [List.getD_eq_getElem?_getD, List.getElem?_append_left h, List.getD_eq_getElem?_getD]
theorem two_new {ts : List Nat} {x : Nat} (h : x = ts.length \/ x = ts.length + 1) : fn (two ts) x = x := by
  unfold fn two
  rw [List.getD_eq_getElem?_getD, List.getElem?_append_right (by lia)]
  rcases h with e | e <;> rw [e]
  · rw [Nat.sub_self]; rfl
  · rw [show ts.length + 1 - ts.length = 1 by lia]; rfl
theorem two_len (ts : List Nat) : (two ts).length = ts.length + 2 := by unfold two; simp
theorem two_perm {ts : List Nat} {m : Nat} (hl : ts.length = 2 * m) (P : PermOn (fn ts) (2 * m)) : PermOn (fn (two ts)) (2 * (m + 1)) := by
  have cs : ∀ x, x < 2 * (m + 1) -> (x < ts.length /\ fn (two ts) x = fn ts x /\ fn ts x < ts.length) \/ (x = ts.length \/ x = ts.length + 1) /\ fn (two ts) x = x := fun x hx => by
    by_cases c : x < ts.length
    · exact .inl ⟨c, two_old c, by rw [hl]; exact P.lt x (by lia)⟩
    · have : x = ts.length \/ x = ts.length + 1 := by lia
      exact .inr ⟨this, two_new this⟩
  refine ⟨fun x hx => ?_, fun x y hx hy e => ?_⟩
  · rcases cs x hx with ⟨a, b, c⟩ | ⟨a, b⟩
    · rw [b]; lia
    · rw [b]; exact hx
  · rcases cs x hx with ⟨a, b, c⟩ | ⟨a, b⟩ <;> rcases cs y hy with ⟨a', b', c'⟩ | ⟨a', b'⟩
    · exact P.inj x y (by lia) (by lia) (by rw [<- b, <- b', e])
    · rw [b, b'] at e; lia
    · rw [b, b'] at e; lia
    · rw [b, b'] at e; exact e
theorem two_cn {ts : List Nat} {m : Nat} (hl : ts.length = 2 * m) (P : PermOn (fn ts) (2 * m)) (x y : Nat) : Cn (fn (two ts)) (2 * (m + 1)) x y ↔ (x < 2 * m /\ y < 2 * m /\ Cn (fn ts) (2 * m) x y) \/ x = y := by
  constructor
  · refine Cn.le (T := fun x y => (x < 2 * m /\ y < 2 * m /\ Cn (fn ts) (2 * m) x y) \/ x = y) (fun x => .inr rfl) (fun x y h => ?_) (fun x y z h1 h2 => ?_) (fun x hx => ?_)
    · rcases h with ⟨a, b, c⟩ | h
      · exact .inl ⟨b, a, .symm c⟩
      · exact .inr h.symm
    · rcases h1 with ⟨a, b, c⟩ | rfl
      · rcases h2 with ⟨a', b', c'⟩ | rfl
        · exact .inl ⟨a, b', .trans c c'⟩
        · exact .inl ⟨a, b, c⟩
      · exact h2
    · by_cases c : x < ts.length
      · rw [two_old c]
        exact .inl ⟨by lia, P.lt x (by lia), .step (by lia)⟩
      · rw [two_new (by lia)]
        exact .inr rfl
  · rintro (⟨a, b, c⟩ | rfl)
    · refine Cn.le (T := Cn (fn (two ts)) (2 * (m + 1))) .refl (fun _ _ => .symm) (fun _ _ _ => .trans) (fun z hz => ?_) c
      rw [<- two_old (ts := ts) (by lia)]
      exact .step (by lia)
    · exact .refl _
theorem two_cnF {ts : List Nat} {m : Nat} (hl : ts.length = 2 * m) (P : PermOn (fn ts) (2 * m)) (x y : Nat) : Cn (phi (two ts)) (2 * (m + 1)) x y ↔ (x < 2 * m /\ y < 2 * m /\ Cn (phi ts) (2 * m) x y) \/ ((x = 2 * m \/ x = 2 * m + 1) /\ (y = 2 * m \/ y = 2 * m + 1)) \/ x = y := by
  constructor
  · refine Cn.le (T := fun x y => (x < 2 * m /\ y < 2 * m /\ Cn (phi ts) (2 * m) x y) \/ ((x = 2 * m \/ x = 2 * m + 1) /\ (y = 2 * m \/ y = 2 * m + 1)) \/ x = y) (fun x => .inr (.inr rfl)) (fun x y h => ?_) (fun x y z h1 h2 => ?_) (fun x hx => ?_)
    · rcases h with ⟨a, b, c⟩ | ⟨a, b⟩ | h
      · exact .inl ⟨b, a, .symm c⟩
      · exact .inr (.inl ⟨b, a⟩)
      · exact .inr (.inr h.symm)
    · rcases h1 with ⟨a, b, c⟩ | ⟨a, b⟩ | rfl
      · rcases h2 with ⟨a', b', c'⟩ | ⟨a', b'⟩ | rfl
        · exact .inl ⟨a, b', .trans c c'⟩
        · lia
        · exact .inl ⟨a, b, c⟩
      · rcases h2 with ⟨a', b', c'⟩ | ⟨a', b'⟩ | rfl
        · lia
        · exact .inr (.inl ⟨a, b'⟩)
        · exact .inr (.inl ⟨a, b⟩)
      · exact h2
    · by_cases c : x < 2 * m
      · have hm := mate_lt (m := m) c
        have e : phi (two ts) x = phi ts x := two_old (ts := ts) (x := mate x) (by lia)
        rw [e]
        exact .inl ⟨c, P.phi.lt x c, .step c⟩
      · have hx2 : x = 2 * m \/ x = 2 * m + 1 := by lia
        have hm : mate x = 2 * m \/ mate x = 2 * m + 1 := by
          unfold mate
          split <;> lia
        have e : phi (two ts) x = mate x := two_new (ts := ts) (x := mate x) (by lia)
        rw [e]
        exact .inr (.inl ⟨hx2, hm⟩)
  · rintro (⟨a, b, c⟩ | ⟨a, b⟩ | rfl)
    · refine Cn.le (T := Cn (phi (two ts)) (2 * (m + 1))) .refl (fun _ _ => .symm) (fun _ _ _ => .trans) (fun z hz => ?_) c
      have e : phi (two ts) z = phi ts z := two_old (ts := ts) (x := mate z) (by have := mate_lt (m := m) hz; lia)
      rw [<- e]
      exact .step (by lia)
    · have st : Cn (phi (two ts)) (2 * (m + 1)) (2 * m) (2 * m + 1) := by
        have e : phi (two ts) (2 * m) = 2 * m + 1 := by
          have : mate (2 * m) = 2 * m + 1 := by unfold mate; rw [if_pos (by lia)]
          show fn (two ts) (mate (2 * m)) = _
          rw [this, two_new (by lia)]
        have := Cn.step (f := phi (two ts)) (N := 2 * (m + 1)) (x := 2 * m) (by lia)
        rw [e] at this
        exact this
      rcases a with rfl | rfl <;> rcases b with rfl | rfl
      · exact .refl _
      · exact st
      · exact .symm st
      · exact .refl _
    · exact .refl _
theorem two_nV {ts : List Nat} {m : Nat} (hl : ts.length = 2 * m) (P : PermOn (fn ts) (2 * m)) : nV (two ts) = nV ts + 2 := by
  unfold nV
  rw [two_len, hl, reps_two, List.length_append, show 2 * m + 2 = 2 * (m + 1) by lia]
  congr 1
  · congr 1
    refine reps_congr fun x y hx hy => ?_
    rw [two_cn hl P]
    exact ⟨fun z => z.elim (fun z => z.2.2) fun z => z ▸ .refl x, fun z => .inl ⟨hx, hy, z⟩⟩
  · rw [List.filter_cons_of_pos, List.filter_cons_of_pos]
    · rfl
    · refine isRep_iff.mpr fun y hy z => ?_
      rcases (two_cn hl P _ _).mp z with ⟨a, _⟩ | a <;> lia
    · refine isRep_iff.mpr fun y hy z => ?_
      rcases (two_cn hl P _ _).mp z with ⟨a, _⟩ | a <;> lia
theorem two_nF {ts : List Nat} {m : Nat} (hl : ts.length = 2 * m) (P : PermOn (fn ts) (2 * m)) : nF (two ts) = nF ts + 1 := by
  unfold nF
  rw [two_len, hl, reps_two, List.length_append, show 2 * m + 2 = 2 * (m + 1) by lia]
  congr 1
  · congr 1
    refine reps_congr fun x y hx hy => ?_
    rw [two_cnF hl P]
    exact ⟨fun z => z.elim (fun z => z.2.2) fun z => z.elim (fun z => by lia) fun z => z ▸ .refl x, fun z => .inl ⟨hx, hy, z⟩⟩
  · rw [List.filter_cons_of_pos, List.filter_cons_of_neg]
    · rfl
    · intro h
      refine isRep_iff.mp h (2 * m) (by lia) ((two_cnF hl P _ _).mpr (.inr (.inl ⟨.inr rfl, .inl rfl⟩)))
    · refine isRep_iff.mpr fun y hy z => ?_
      rcases (two_cnF hl P _ _).mp z with ⟨a, _⟩ | ⟨a, b⟩ | a <;> lia
theorem mate_swp (a b x : Nat) : swp a b (mate x) = mate (swp (mate a) (mate b) x) := by
  by_cases h1 : x = mate a
  · rw [h1, mate_mate, swp_a, swp_a, mate_mate]
  · by_cases h2 : x = mate b
    · rw [h2, mate_mate, swp_b, swp_b, mate_mate]
    · rw [swp_o h1 h2, swp_o (fun z => h1 (by rw [<- z, mate_mate])) (fun z => h2 (by rw [<- z, mate_mate]))]
section
variable {L : List Nat} {k e p : Nat}
theorem behind_fun (hl : L.length = 2 * k) (he : e < 2 * k) (hp : p < 2 * k) (hf : fn L p = p) : fn (behind L e p) = fun x => fn L (swp e p x) := funext fun x => behind_fn (by lia) (by lia) hf x
theorem behind_phi (hl : L.length = 2 * k) (he : e < 2 * k) (hp : p < 2 * k) (hf : fn L p = p) : phi (behind L e p) = fun x => phi L (swp (mate e) (mate p) x) := funext fun x => by
  show fn (behind L e p) (mate x) = fn L (mate (swp (mate e) (mate p) x))
  rw [behind_fun hl he hp hf]
  dsimp only
  rw [mate_swp]
theorem behind_perm (hl : L.length = 2 * k) (P : PermOn (fn L) (2 * k)) (he : e < 2 * k) (hp : p < 2 * k) (hf : fn L p = p) : PermOn (fn (behind L e p)) (2 * k) := by
  rw [behind_fun hl he hp hf]
  exact P.swap he hp
theorem behind_nV (hl : L.length = 2 * k) (P : PermOn (fn L) (2 * k)) (he : e < 2 * k) (hp : p < 2 * k) (hf : fn L p = p) (ne : ¬ Cn (fn L) (2 * k) e p) : nV (behind L e p) + 1 = nV L := by
  unfold nV
  rw [behind_len, hl, behind_fun hl he hp hf]
  exact join_len (cn_equ _ _) he hp ne (swap_join P he hp ne)
theorem behind_join (hl : L.length = 2 * k) (P : PermOn (fn L) (2 * k)) (he : e < 2 * k) (hp : p < 2 * k) (hf : fn L p = p) (ne : ¬ Cn (phi L) (2 * k) (mate e) (mate p)) : nF (behind L e p) + 1 = nF L := by
  unfold nF
  rw [behind_len, hl, behind_phi hl he hp hf]
  exact join_len (cn_equ _ _) (mate_lt he) (mate_lt hp) ne (swap_join P.phi (mate_lt he) (mate_lt hp) ne)
theorem behind_part (hl : L.length = 2 * k) (P : PermOn (fn L) (2 * k)) (he : e < 2 * k) (hp : p < 2 * k) (hf : fn L p = p) (nab : mate e ≠ mate p) (c : Cn (phi L) (2 * k) (mate e) (mate p)) : nF (behind L e p) = nF L + 1 := by
  have PF := P.phi
  have ne := swap_part PF (mate_lt he) (mate_lt hp) nab c
  have P2 := PF.swap (mate_lt he) (mate_lt hp)
  have back : (fun x => (fun x => phi L (swp (mate e) (mate p) x)) (swp (mate e) (mate p) x)) = phi L := funext fun x => by
    dsimp only
    rw [swp_swp]
  have j := swap_join P2 (mate_lt he) (mate_lt hp) ne
  rw [back] at j
  unfold nF
  rw [behind_len, hl, behind_phi hl he hp hf]
  exact (join_len (cn_equ _ _) (mate_lt he) (mate_lt hp) ne j).symm
theorem behind_jn (hl : L.length = 2 * k) (he : e < 2 * k) (hp : p < 2 * k) (hf : fn L p = p) : (∀ x y, Jn L x y -> Jn (behind L e p) x y) /\ Jn (behind L e p) e p := by
  have bl := behind_len L e p
  have se : Jn (behind L e p) e p := by
    have := Jn.turn (ts := behind L e p) (x := e) (by lia)
    rw [behind_fun hl he hp hf] at this
    dsimp only at this
    rw [swp_a, hf] at this
    exact this
  refine ⟨fun x y h => ?_, se⟩
  induction h with
  | refl x => exact .refl x
  | @turn x hx =>
    by_cases h1 : x = e
    · have := Jn.turn (ts := behind L e p) (x := p) (by lia)
      rw [behind_fun hl he hp hf] at this
      dsimp only at this
      rw [swp_b] at this
      rw [h1]
      exact .trans se this
    · by_cases h2 : x = p
      · rw [h2, hf]; exact .refl p
      · have := Jn.turn (ts := behind L e p) (x := x) (by lia)
        rw [behind_fun hl he hp hf] at this
        dsimp only at this
        rw [swp_o h1 h2] at this
        exact this
  | mate x => exact .mate x
  | symm _ ih => exact .symm ih
  | trans _ _ ih1 ih2 => exact .trans ih1 ih2
end
theorem two_jn {ts : List Nat} {x y : Nat} (h : Jn ts x y) : Jn (two ts) x y := by
  induction h with
  | refl x => exact .refl x
  | @turn x hx =>
    have := Jn.turn (ts := two ts) (x := x) (by rw [two_len]; lia)
    rw [two_old hx] at this
    exact this
  | mate x => exact .mate x
  | symm _ ih => exact .symm ih
  | trans _ _ ih1 ih2 => exact .trans ih1 ih2
theorem nV_nil : nV [] = 0 := rfl
theorem nF_nil : nF [] = 0 := rfl
theorem perm_nil : PermOn (fn []) (2 * 0) := ⟨fun x hx => by lia, fun x y hx => by lia⟩
theorem drw0 : Drw [] 0 := ⟨rfl, perm_nil, fun x hx => by lia, .inl rfl⟩
theorem drw01 : Drw [0, 1] 1 := by
  have e : two [] = [0, 1] := rfl
  have h1 := two_nV (ts := []) (m := 0) rfl perm_nil
  have h2 := two_nF (ts := []) (m := 0) rfl perm_nil
  rw [nV_nil, e] at h1
  rw [nF_nil, e] at h2
  refine ⟨rfl, e ▸ two_perm (ts := []) (m := 0) rfl perm_nil, fun x hx => ?_, .inr (by rw [h1, h2])⟩
  have : x = 0 \/ x = 1 := by lia
  rcases this with rfl | rfl
  · exact .refl 0
  · exact .symm (.mate 0)
theorem drw10 : Drw [1, 0] 1 := by
  have e : two [] = [0, 1] := rfl
  have eb : behind [0, 1] 0 1 = [1, 0] := rfl
  have P : PermOn (fn [0, 1]) (2 * 1) := e ▸ two_perm (ts := []) (m := 0) rfl perm_nil
  have v1 := two_nV (ts := []) (m := 0) rfl perm_nil
  have v2 := two_nF (ts := []) (m := 0) rfl perm_nil
  rw [nV_nil, e] at v1
  rw [nF_nil, e] at v2
  have ne : ¬ Cn (fn [0, 1]) (2 * 1) 0 1 := fun z => by
    have := (two_cn (ts := []) (m := 0) rfl perm_nil 0 1).mp z
    lia
  have c : Cn (phi [0, 1]) (2 * 1) (mate 0) (mate 1) := (two_cnF (ts := []) (m := 0) rfl perm_nil _ _).mpr (.inr (.inl (by decide)))
  have h1 := behind_nV (L := [0, 1]) (k := 1) (e := 0) (p := 1) rfl P (by decide) (by decide) rfl ne
  have h2 := behind_part (L := [0, 1]) (k := 1) (e := 0) (p := 1) rfl P (by decide) (by decide) rfl (by decide) c
  rw [eb] at h1 h2
  refine ⟨rfl, eb ▸ behind_perm (L := [0, 1]) (k := 1) (e := 0) (p := 1) rfl P (by decide) (by decide) rfl, fun x hx => ?_, .inr (by lia)⟩
  have : x = 0 \/ x = 1 := by lia
  rcases this with rfl | rfl
  · exact .refl 0
  · exact .symm (.mate 0)
section
variable {ts : List Nat} {m e p : Nat}
theorem grow1 (D : Drw ts m) (h1 : 1 <= m) (he : e < 2 * m) (hp : p = 2 * m \/ p = 2 * m + 1) : Drw (behind (two ts) e p) (m + 1) := by
  obtain ⟨hl, P, J, pl⟩ := D
  have tl : (two ts).length = 2 * (m + 1) := by rw [two_len]; lia
  have P0 := two_perm hl P
  have hf : fn (two ts) p = p := two_new (by lia)
  have v := two_nV hl P
  have f := two_nF hl P
  have hp' : p < 2 * (m + 1) := by lia
  have ne1 : ¬ Cn (fn (two ts)) (2 * (m + 1)) e p := fun z => by
    rcases (two_cn hl P _ _).mp z with ⟨_, a, _⟩ | a <;> lia
  have mp : mate p = 2 * m \/ mate p = 2 * m + 1 := by unfold mate; split <;> lia
  have me := mate_lt he
  have ne2 : ¬ Cn (phi (two ts)) (2 * (m + 1)) (mate e) (mate p) := fun z => by
    rcases (two_cnF hl P _ _).mp z with ⟨_, a, _⟩ | ⟨a, _⟩ | a <;> lia
  have h2 := behind_nV tl P0 (show e < 2 * (m + 1) by lia) hp' hf ne1
  have h3 := behind_join tl P0 (show e < 2 * (m + 1) by lia) hp' hf ne2
  obtain ⟨j1, j2⟩ := behind_jn tl (show e < 2 * (m + 1) by lia) hp' hf
  refine ⟨by rw [behind_len]; exact tl, behind_perm tl P0 (by lia) hp' hf, fun x hx => ?_, .inr (by lia)⟩
  have old : ∀ x, x < 2 * m -> Jn (behind (two ts) e p) x 0 := fun x hx => j1 _ _ (two_jn (J x hx))
  by_cases c : x < 2 * m
  · exact old x c
  · have pe : Jn (behind (two ts) e p) p 0 := .trans (.symm j2) (old e he)
    by_cases xp : x = p
    · rw [xp]; exact pe
    · have : x = mate p := by unfold mate; split <;> lia
      rw [this]
      exact .trans (.symm (.mate p)) pe
theorem grow2 {g : Nat} (D : Drw ts m) (h1 : 1 <= m) (he : e < 2 * m) (hg : g < 2 * m) (hp : p = 2 * m \/ p = 2 * m + 1) (c : Cn (phi ts) (2 * m) (fn ts e) (fn ts g)) : Drw (behind (behind (two ts) e p) g (mate p)) (m + 1) := by
  obtain ⟨hl, P, J, pl⟩ := D
  have tl : (two ts).length = 2 * (m + 1) := by rw [two_len]; lia
  have P0 := two_perm hl P
  have hf : fn (two ts) p = p := two_new (by lia)
  have v := two_nV hl P
  have f := two_nF hl P
  have hp' : p < 2 * (m + 1) := by lia
  have ne1 : ¬ Cn (fn (two ts)) (2 * (m + 1)) e p := fun z => by
    rcases (two_cn hl P _ _).mp z with ⟨_, a, _⟩ | a <;> lia
  have mp : (mate p = 2 * m \/ mate p = 2 * m + 1) /\ mate p ≠ p := ⟨by unfold mate; split <;> lia, mate_ne p⟩
  have me := mate_lt he
  have mg := mate_lt hg
  have ne2 : ¬ Cn (phi (two ts)) (2 * (m + 1)) (mate e) (mate p) := fun z => by
    rcases (two_cnF hl P _ _).mp z with ⟨_, a, _⟩ | ⟨a, _⟩ | a <;> lia
  have he' : e < 2 * (m + 1) := by lia
  have h2 := behind_nV tl P0 he' hp' hf ne1
  have h3 := behind_join tl P0 he' hp' hf ne2
  obtain ⟨j1, j2⟩ := behind_jn tl he' hp' hf
  have tl1 : (behind (two ts) e p).length = 2 * (m + 1) := by rw [behind_len]; exact tl
  have P1 := behind_perm tl P0 he' hp' hf
  have hf1 : fn (behind (two ts) e p) (mate p) = mate p := by
    rw [behind_fun tl he' hp' hf]
    dsimp only
    rw [swp_o (by lia) mp.2, two_new (by lia)]
  have hg' : g < 2 * (m + 1) := by lia
  have hq' : mate p < 2 * (m + 1) := by lia
  have ne3 : ¬ Cn (fn (behind (two ts) e p)) (2 * (m + 1)) g (mate p) := fun z => by
    rw [behind_fun tl he' hp' hf] at z
    rcases (swap_join P0 he' hp' ne1 _ _).mp z with z | ⟨_, z⟩ | ⟨z, _⟩
    · rcases (two_cn hl P _ _).mp z with ⟨_, a, _⟩ | a <;> lia
    · rcases (two_cn hl P _ _).mp z with ⟨a, _, _⟩ | a
      · lia
      · exact mp.2 a
    · rcases (two_cn hl P _ _).mp z with ⟨_, a, _⟩ | a <;> lia
  have h4 := behind_nV tl1 P1 hg' hq' hf1 ne3
  have cc : Cn (phi (behind (two ts) e p)) (2 * (m + 1)) (mate g) (mate (mate p)) := by
    rw [behind_phi tl he' hp' hf, mate_mate]
    refine (swap_join P0.phi (mate_lt he') (mate_lt hp') ne2 _ _).mpr (.inr (.inl ⟨?_, ?_⟩))
    · refine (two_cnF hl P _ _).mpr (.inl ⟨mg, me, ?_⟩)
      have s1 := Cn.step (f := phi ts) (N := 2 * m) (x := mate e) me
      have s2 := Cn.step (f := phi ts) (N := 2 * m) (x := mate g) mg
      unfold phi at s1 s2
      rw [mate_mate] at s1 s2
      exact .trans s2 (.trans (.symm c) (.symm s1))
    · exact (two_cnF hl P _ _).mpr (.inr (.inl ⟨hp, mp.1⟩))
  have h5 := behind_part tl1 P1 hg' hq' hf1 (by rw [mate_mate]; lia) cc
  obtain ⟨j3, j4⟩ := behind_jn tl1 hg' hq' hf1
  refine ⟨by rw [behind_len]; exact tl1, behind_perm tl1 P1 hg' hq' hf1, fun x hx => ?_, .inr (by lia)⟩
  have old : ∀ x, x < 2 * m -> Jn (behind (behind (two ts) e p) g (mate p)) x 0 := fun x hx => j3 _ _ (j1 _ _ (two_jn (J x hx)))
  by_cases c : x < 2 * m
  · exact old x c
  · have pe : Jn (behind (behind (two ts) e p) g (mate p)) p 0 := .trans (.symm (j3 _ _ j2)) (old e he)
    by_cases xp : x = p
    · rw [xp]; exact pe
    · have : x = mate p := by unfold mate; split <;> lia
      rw [this]
      exact .trans (.symm (.mate p)) pe
end
theorem conj_cn {f g τ : Nat -> Nat} {N : Nat} (PT : PermOn τ N) (P : PermOn f N) (h : ∀ x, x < N -> g (τ x) = τ (f x)) (x y : Nat) (hx : x < N) (hy : y < N) : Cn g N (τ x) (τ y) ↔ Cn f N x y := by
  constructor
  · intro c
    have := Cn.le (T := fun u v => u = v \/ ∃ x y, x < N /\ y < N /\ u = τ x /\ v = τ y /\ Cn f N x y) (fun _ => .inl rfl) (fun u v z => ?_) (fun u v z' h1 h2 => ?_) (fun u hu => ?_) c
    · rcases this with e | ⟨x', y', a, b, e1, e2, c'⟩
      · have := PT.inj _ _ hx hy e
        rw [this]
        exact .refl _
      · rw [PT.inj _ _ hx a e1, PT.inj _ _ hy b e2]
        exact c'
    · rcases z with e | ⟨x', y', a, b, e1, e2, c'⟩
      · exact .inl e.symm
      · exact .inr ⟨y', x', b, a, e2, e1, .symm c'⟩
    · rcases h1 with rfl | ⟨x', y', a, b, e1, e2, c'⟩
      · exact h2
      · rcases h2 with rfl | ⟨x2, y2, a2, b2, e3, e4, c2⟩
        · exact .inr ⟨x', y', a, b, e1, e2, c'⟩
        · have : y' = x2 := PT.inj _ _ b a2 (by rw [<- e2, <- e3])
          subst this
          exact .inr ⟨x', y2, a, b2, e1, e4, .trans c' c2⟩
    · obtain ⟨w, hw, rfl⟩ := PT.sur hu
      exact .inr ⟨w, f w, hw, P.lt w hw, rfl, h w hw, .step hw⟩
  · intro c
    have := Cn.le (T := fun x y => x = y \/ (x < N /\ y < N /\ Cn g N (τ x) (τ y))) (fun _ => .inl rfl) (fun u v z => ?_) (fun u v z' h1 h2 => ?_) (fun u hu => ?_) c
    · rcases this with e | ⟨_, _, z⟩
      · rw [e]; exact .refl _
      · exact z
    · rcases z with e | ⟨a, b, c'⟩
      · exact .inl e.symm
      · exact .inr ⟨b, a, .symm c'⟩
    · rcases h1 with rfl | ⟨a, b, c'⟩
      · exact h2
      · rcases h2 with rfl | ⟨a2, b2, c2⟩
        · exact .inr ⟨a, b, c'⟩
        · exact .inr ⟨a, b2, .trans c' c2⟩
    · refine .inr ⟨hu, P.lt u hu, ?_⟩
      rw [<- h u hu]
      exact .step (PT.lt u hu)
theorem conj_perm {f g τ : Nat -> Nat} {N : Nat} (PT : PermOn τ N) (P : PermOn f N) (h : ∀ x, x < N -> g (τ x) = τ (f x)) : PermOn g N := by
  refine ⟨fun u hu => ?_, fun u v hu hv e => ?_⟩
  · obtain ⟨x, hx, rfl⟩ := PT.sur hu
    rw [h x hx]
    exact PT.lt _ (P.lt x hx)
  · obtain ⟨x, hx, rfl⟩ := PT.sur hu
    obtain ⟨y, hy, rfl⟩ := PT.sur hv
    rw [h x hx, h y hy] at e
    rw [P.inj x y hx hy (PT.inj _ _ (P.lt x hx) (P.lt y hy) e)]
theorem renum {ts us : List Nat} {m : Nat} {τ : Nat -> Nat} (D : Drw ts m) (ul : us.length = 2 * m) (PT : PermOn τ (2 * m)) (hm : ∀ x, x < 2 * m -> τ (mate x) = mate (τ x)) (h : ∀ x, x < 2 * m -> fn us (τ x) = τ (fn ts x)) : Drw us m := by
  obtain ⟨hl, P, J, pl⟩ := D
  have hphi : ∀ x, x < 2 * m -> phi us (τ x) = τ (phi ts x) := fun x hx => by
    show fn us (mate (τ x)) = τ (fn ts (mate x))
    rw [<- hm x hx, h _ (mate_lt hx)]
  have hV : nV ts = nV us := by
    unfold nV
    rw [hl, ul]
    exact bij_len PT (cn_equ _ _) (cn_equ _ _) fun x y hx hy => conj_cn PT P h x y hx hy
  have hF : nF ts = nF us := by
    unfold nF
    rw [hl, ul]
    exact bij_len PT (cn_equ _ _) (cn_equ _ _) fun x y hx hy => conj_cn PT P.phi hphi x y hx hy
  refine ⟨ul, conj_perm PT P h, fun u hu => ?_, by rw [<- hV, <- hF]; exact pl⟩
  have jn : ∀ {x y}, Jn ts x y -> (x < 2 * m ↔ y < 2 * m) /\ (x < 2 * m -> Jn us (τ x) (τ y)) := fun hj => by
    induction hj with
    | refl x => exact ⟨Iff.rfl, fun _ => .refl _⟩
    | @turn x hx =>
      have hx' : x < 2 * m := by lia
      refine ⟨⟨fun _ => P.lt x hx', fun _ => hx'⟩, fun _ => ?_⟩
      rw [<- h x hx']
      exact .turn (by rw [ul]; exact PT.lt x hx')
    | mate x =>
      refine ⟨⟨fun z => mate_lt z, fun z => by have := mate_lt z; rw [mate_mate] at this; exact this⟩, fun hx => ?_⟩
      rw [hm x hx]
      exact .mate _
    | symm _ ih => exact ⟨ih.1.symm, fun hx => .symm (ih.2 (ih.1.mpr hx))⟩
    | trans _ _ ih1 ih2 => exact ⟨ih1.1.trans ih2.1, fun hx => .trans (ih1.2 hx) (ih2.2 (ih1.1.mp hx))⟩
  obtain ⟨x, hx, rfl⟩ := PT.sur hu
  obtain ⟨z, hz, e0⟩ := PT.sur (show 0 < 2 * m by lia)
  have a1 := (jn (J x hx)).2 hx
  have a2 := (jn (J z hz)).2 hz
  rw [e0] at a2
  exact .trans a1 (.symm a2)
theorem Same.put84 {H H2 : Hp} {g : Addr} {o : HO} (s : Same H H2) (h : H g = none) : Same H (upd H2 g o) := fun b u e => by rw [upd_ne (ne_of_none e h)]; exact s b u e
def ci (ts : List Nat) : List Int := ts.map fun (n : Nat) => (n : Int)
theorem ci_len (ts : List Nat) : (ci ts).length = ts.length := by unfold ci; rw [List.length_map]
theorem ci_at {ts : List Nat} {i : Nat} (h : i < ts.length) : atI ((ci ts).map V.int) (i : Int) = some (.int (fn ts i : Nat)) := by
  refine atI_nat (j := i) ?_
  unfold ci fn
  simp [h]
theorem at_last {α : Type} (xs : List α) (x : α) : atI (xs ++ [x]) (-1) = some x := by
  unfold atI ixN
  rw [if_neg (by decide), List.length_append, List.length_singleton, if_pos (by lia)]
  show (xs ++ [x])[(-1 + ((xs.length + 1 : Nat) : Int)).toNat]? = some x
  rw [show (-1 + ((xs.length + 1 : Nat) : Int)).toNat = xs.length by lia]
  simp
theorem ci_snoc (l : List Nat) (x : Nat) : (ci (l ++ [x])).map V.int = (ci l).map V.int ++ [.int (x : Nat)] := by unfold ci; rw [List.map_append, List.map_append]; rfl
def wlk (f : Nat -> Nat) (s j : Nat) : List Nat := (List.range (j + 1)).map (itr f s)
theorem wlk_succ (f : Nat -> Nat) (s j : Nat) : wlk f s (j + 1) = wlk f s j ++ [itr f s (j + 1)] := by
  unfold wlk
  rw [List.range_succ, List.map_append]
  rfl
theorem wlk_last (f : Nat -> Nat) (s j : Nat) : ∃ l, wlk f s j = l ++ [itr f s j] := by
  unfold wlk
  rw [List.range_succ, List.map_append]
  exact ⟨_, rfl⟩
theorem wlk_end {f : Nat -> Nat} {s p : Nat} (h : Per f s p) : wlk f s (p - 1) = rnd f s := by
  unfold wlk rnd
  rw [per_is h, show p - 1 + 1 = p by have := h.pos; lia]
def spMate : Sp := fun vs H Q _ => ∃ x : Nat, vs = [.int x] /\ Q (.int (mate x : Nat)) H
def spRound (K : W.Frag) : Sp := fun vs H Q _ => ∃ (dr : Addr) (ts : List Nat) (s : Nat), vs = [.ref dr, .int s] /\ SqT K H dr ((ci ts).map V.int) /\ PermOn (fn ts) ts.length /\ s < ts.length /\ ts.length <= 16 /\ ∀ l H', Same H H' -> H l = none -> H' l = some (.lst ((ci (rnd (fn ts) s)).map V.int)) -> Q (.ref l) H'
def phiL (ts : List Nat) : List Nat := (List.range ts.length).map (phi ts)
theorem phiL_len (ts : List Nat) : (phiL ts).length = ts.length := by unfold phiL; rw [List.length_map, List.length_range]
theorem phiL_fn {ts : List Nat} {x : Nat} (h : x < ts.length) : fn (phiL ts) x = phi ts x := by unfold phiL; show ((List.range ts.length).map (phi ts)).getD x 0 = _; simp [h]
def spOther (K : W.Frag) : Sp := fun vs H Q _ => ∃ (dr : Addr) (ts : List Nat) (m : Nat), vs = [.ref dr] /\ SqT K H dr ((ci ts).map V.int) /\ ts.length = 2 * m /\ m <= 8 /\ ∀ t H', Same H H' -> H' t = some (.tup ((ci (phiL ts)).map V.int)) -> Q (.ref t) H'
section
variable {P : Program} {w : World} {K : W.Frag} {mg : Str -> Option Value} {base : Heap}
theorem scMate : FnScope ["end"] ["end"] (defScope sMate) := ⟨rfl, rfl, rfl, by decide +kernel, rfl, by decide +kernel, by decide +kernel⟩
theorem d_mate (S : Src K mg "mate_of" sMate ["end"]) : Def P w K mg base 1 "mate_of" ["end"] spMate := by
  refine S.def scMate (fun vs H Q E h => ?_) (fun f cdv A outer s H vs Q E hr h => ?_)
  · obtain ⟨_, rfl, _⟩ := h; rfl
  · obtain ⟨x, rfl, q⟩ := h
    refine ⟨_, pss_one (ps_ret (pe_ifExp (pt_cmpR op_eq (pe_op op_mod (pv 0) pe_int) pe_int (nomark _)) (pe_op op_add (pv 0) pe_int) (pe_op op_sub (pv 0) pe_int))), ?_⟩
    refine ⟨_, rfl, _, _, rfl, rfl, (by show (0 : Int) < 2; decide), rfl, _, rfl, ?_⟩
    by_cases c : x % 2 = 0
    · rw [decide_eq_true (show V.int ((x : Int) % 2) = V.int 0 by rw [show (x : Int) % 2 = 0 by lia])]
      refine iteT ⟨_, rfl, _, _, rfl, rfl, ?_⟩
      have : mate x = x + 1 := by unfold mate; rw [if_pos c]
      rw [this] at q
      exact q
    · rw [decide_eq_false (show ¬ V.int ((x : Int) % 2) = V.int 0 from fun z => by injection z with z; lia)]
      refine iteF ⟨_, rfl, _, _, rfl, rfl, ?_⟩
      have : mate x = x - 1 := by unfold mate; rw [if_neg c]
      rw [this, Int.natCast_sub (by lia)] at q
      exact q
theorem scRound : FnScope ["drawing", "start", "ends"] ["drawing", "start"] (defScope sRound) := ⟨rfl, rfl, rfl, by decide +kernel, rfl, by decide +kernel, by decide +kernel⟩
theorem d_round (S : Src K mg "round_from" sRound ["drawing", "start"]) : Def P w K mg base 1 "round_from" ["drawing", "start"] (spRound K) := by
  refine S.def scRound (fun vs H Q E h => ?_) (fun f cdv A outer s H vs Q E hr h => ?_)
  · obtain ⟨_, _, _, rfl, _⟩ := h; rfl
  · obtain ⟨dr, ts, st, rfl, hd, PT, hs, n16, q⟩ := h
    refine ⟨_, pss_cons (ps_set (i := 2) scRound.nd rfl (Or.inl rfl) (pe_lst (pa_cons (pv 1) pa_nil)))
      (pss_cons (ps_while PassesOwn.never (pt_cmpR op_ne (pe_ix (ix_tupK K) (pv 0) (pe_ix (ix_listK K) (pv 2) (pe_un un_neg pe_int) (fun _ _ => rfl)) (fun _ _ => rfl)) (pv 1) (nomark _))
        (pss_one (ps_expr (pe_bm PySem.F.plainAttrs_list PySem.F.slot_list_append PySem.F.type_list_append mt_append (pv 2) (pa_cons (pe_ix (ix_tupK K) (pv 0) (pe_ix (ix_listK K) (pv 2) (pe_un un_neg pe_int) (fun _ _ => rfl)) (fun _ _ => rfl)) pa_nil)))))
      (pss_one (ps_ret (pv 2)))), ?_⟩
    obtain ⟨p, pN, hp⟩ := PT.per hs
    have pp := hp.pos
    refine ⟨_, rfl, by show 1 <= sizeLine; decide, fun l hl => ?_⟩
    have s0 := Same.new (o := HO.lst [.int (st : Int)]) hl
    have h0 : (upd H l (.lst [.int (st : Int)])) l = some (.lst ((ci (wlk (fn ts) st 0)).map V.int)) := upd_same
    generalize upd H l (.lst [.int (st : Int)]) = H0 at s0 h0 ⊢
    dsimp only [List.set]
    refine ⟨fun m σ H' => ∃ j, m + j = p /\ j + 1 <= p /\ σ = [some (.ref dr), some (.int (st : Int)), some (.ref l)] /\ Same H H' /\ H' l = some (.lst ((ci (wlk (fn ts) st j)).map V.int)), ⟨p, 0, rfl, by lia, rfl, s0, h0⟩, ?_⟩
    rintro m σ H' ⟨j, mj, jp, rfl, sm, hl'⟩
    have lt := PT.itr_lt hs j
    obtain ⟨pre, ew⟩ := wlk_last (fn ts) st j
    have eL : (ci (wlk (fn ts) st j)).map V.int = (ci pre).map V.int ++ [.int (itr (fn ts) st j : Nat)] := by rw [ew, ci_snoc]
    have la : atI ((ci (wlk (fn ts) st j)).map V.int) (-1) = some (.int (itr (fn ts) st j : Nat)) := by rw [eL]; exact at_last _ _
    have hd' := sqT sm hd
    refine ⟨_, rfl, _, rfl, _, rfl, l, _, _, _, rfl, rfl, SqL.of hl', la, dr, _, _, _, rfl, rfl, hd', ci_at lt, _, rfl, rfl, _, rfl, ?_⟩
    have e1 : fn ts (itr (fn ts) st j) = itr (fn ts) st (j + 1) := rfl
    rw [e1]
    by_cases c : j + 1 = p
    · rw [decide_eq_true (show V.int ((itr (fn ts) st (j + 1) : Nat) : Int) = V.int (st : Int) by rw [c, hp.back])]
      refine iteF ⟨_, rfl, q l H' sm hl ?_⟩
      rw [hl', show j = p - 1 by lia, wlk_end hp]
    · have ne := hp.no (j + 1) (by lia) (by lia)
      rw [decide_eq_false (show ¬ V.int ((itr (fn ts) st (j + 1) : Nat) : Int) = V.int (st : Int) from fun z => by injection z with z; exact ne (by lia))]
      refine iteT ⟨fun σ' H2 => σ' = [some (.ref dr), some (.int (st : Int)), some (.ref l)] /\ Same H H2 /\ H2 l = some (.lst ((ci (wlk (fn ts) st (j + 1))).map V.int)), ?_, ?_⟩
      · rintro σ' H2 ⟨rfl, s2, h2⟩
        exact ⟨m - 1, by lia, j + 1, by lia, by lia, rfl, s2, h2⟩
      · refine ⟨_, rfl, .inl ⟨rfl, _, SqL.of hl'⟩, _, rfl, _, rfl, _, rfl, l, _, _, _, rfl, rfl, SqL.of hl', la, dr, _, _, _, rfl, rfl, hd', ci_at lt, l, _, _, rfl, rfl, hl', ?_, ?_⟩
        · rw [List.length_map, ci_len]
          unfold wlk
          rw [List.length_map, List.length_range]
          exact Nat.lt_of_le_of_lt (show j + 1 <= 100 by lia) (by decide)
        · refine ⟨rfl, Same.put84 sm hl, ?_⟩
          rw [upd_same, wlk_succ, ci_snoc, e1]
theorem scOther : FnScope ["drawing"] ["drawing"] (defScope sOther) := ⟨rfl, rfl, rfl, by decide +kernel, rfl, by decide +kernel, by decide +kernel⟩
theorem ndED : (["end", "drawing"] : List Str).Nodup := by decide +kernel
theorem d_other (T : Txt K mg) (S : Src K mg "other_one" sOther ["drawing"]) (DM : Def P w K mg base 1 "mate_of" ["end"] spMate) : Def P w K mg base 2 "other_one" ["drawing"] (spOther K) := by
  refine S.def scOther (fun vs H Q E h => ?_) (fun f cdv A outer s H vs Q E hr h => ?_)
  · obtain ⟨_, _, _, rfl, _⟩ := h; rfl
  · obtain ⟨dr, ts, m, rfl, hd, hl, m8, q⟩ := h
    refine ⟨_, pss_one (ps_ret (pe_callTy (call_tuple_ofK K) rfl T.tuple boot_tuple' (pa_cons (pe_comp (N' := ["end", "drawing"]) (fr := [none, some 0]) (compOk_of (by rfl)) rfl (pi_range1 rfl T.range (pa_cons (pe_callB (call_lenK K) (by rfl) T.len PySem.boot_len (pa_cons (pv 0) pa_nil)) pa_nil))
      (fun _ _ _ _ => pg_name (i := 0) ndED rfl (Or.inl rfl) (Or.inr rfl)) (fun _ _ _ _ => pifs_nil) (fun _ _ _ _ => pe_ix (r := rIxT K) (ix_tupK K) (pv 1) (pe_def DM hr rfl (pa_cons (pv 0) pa_nil)) (fun _ _ => rfl))) pa_nil))), ?_⟩
    refine ⟨_, rfl, dr, _, rfl, .inr hd, _, rfl, ?_, ?_, ?_⟩
    · lia
    · rw [List.length_map, ci_len]; lia
    rw [List.length_map, ci_len, Int.toNat_natCast]
    refine comp_range (lo := 0) (n := ts.length) (fun σ => ∃ v, σ = [v, some (.ref dr)]) (fun i ys H' => H' = H /\ ys = (ci ((phiL ts).take i)).map V.int) ⟨_, rfl⟩ ⟨rfl, rfl⟩ (Nat.lt_of_le_of_lt (show ts.length <= 100 by lia) (by decide)) ?_ ?_
    · rintro i ys σ H' N hi ⟨u, rfl⟩ ⟨rfl, rfl⟩ hN
      rw [show (0 : Int) + (i : Int) = (i : Int) by lia]
      dsimp only [gName, List.set]
      have ml := mate_lt (m := m) (x := i) (by lia)
      refine yesT ⟨_, rfl, _, rfl, i, rfl, dr, _, _, _, rfl, rfl, hd, ci_at (by lia), ?_⟩
      refine hN _ _ _ ⟨_, rfl⟩ ⟨rfl, ?_⟩ (by simp)
      have e : (phiL ts)[i]? = some (fn ts (mate i)) := by unfold phiL phi; simp [hi]
      rw [take_succ_of e, ci_snoc]
    · rintro ys H' ⟨rfl, rfl⟩ p hp
      rw [List.take_of_length_le (by rw [phiL_len]; exact Nat.le_refl _)]
      exact ⟨p, _, rfl, .inl ⟨SqL.of upd_same, fun t ht => q t _ ((Same.new hp).trans (Same.new ht)) upd_same⟩⟩
end
def HK (kd : Kd) (H : Hp) (a : Addr) (xs : List V) : Prop := match kd with | .l => H a = some (.lst xs) | .t => FzT H a xs
theorem HK.sq {kd : Kd} {K : W.Frag} {H : Hp} {a : Addr} {xs : List V} (h : HK kd H a xs) : SqK kd K H a xs := by
  cases kd with
  | l => exact SqL.of h
  | t => exact FzT.sq h
theorem HK.same {kd : Kd} {H H' : Hp} {a : Addr} {xs : List V} (h : HK kd H a xs) (s : Same H H') : HK kd H' a xs := by
  cases kd with
  | l => exact s _ _ h
  | t => exact FzT.same h s
def rSortedK (kd : Kd) (K : W.Frag) : List V -> Hp -> VK -> Prop := fun xs H Q => ∃ (p : Addr) (ns : List Int), xs = [.ref p] /\ SqK kd K H p (ns.map V.int) /\ ns.length < 64 /\ ∀ (l : Addr) (ms : List Int), ms.Perm ns -> ms.Pairwise (· <= ·) -> H l = none -> Q (.ref l) (upd H l (.lst (ms.map V.int)))
theorem call_sortedK {X : Cx} (kd : Kd) : CallR X (.builtin "sorted") (rSortedK kd X.K) := by
  cases kd with
  | l => exact call_sortedI
  | t => exact call_sortedTI
def spWholeI : Sp := fun vs H Q _ => ∃ i : Int, vs = [.int i] /\ Q (.bl true) H
theorem same_tupI {K : W.Frag} {H : Hp} {a b : Addr} {p : List Int} (h1 : SqT K H a (p.map V.int)) (h2 : SqT K H b (p.map V.int)) {Q : VK} {out : Bool} (q : Q (.bl out) H) : rSame K out (.ref a) (.ref b) H Q := by
  refine ⟨a, b, _, _, 0, rfl, rfl, .inl ⟨h1, h2⟩, rfl, by decide, fun j x y e1 e2 => ?_, q⟩
  rw [e1] at e2
  cases e2
  rw [List.getElem?_map] at e1
  cases e : p[j]? with
  | none => rw [e] at e1; cases e1
  | some k => rw [e] at e1; cases e1; exact .flat rfl
theorem kit2 (K : W.Frag) {us : List Value} (h : Vals [V.ty "list", V.ty "tuple"] us) (kd : Kd) : PySem.W.kitAny K (.type (match kd with | .l => "list" | .t => "tuple")) us = some true := by
  obtain ⟨u1, u2, rfl, r1, r2⟩ := Vals.two h
  cases (show u1 = Value.type "list" from r1)
  cases (show u2 = Value.type "tuple" from r2)
  cases kd with
  | l => first | rfl | decide +kernel
  | t => first | rfl | decide +kernel
theorem kp_int (K : W.Frag) : PySem.W.kitOne K (.type "int") (.type "int") = some true := by first | rfl | decide +kernel
theorem kp_intb (K : W.Frag) : PySem.W.kitOne K (.type "int") (.type "bool") = some false := by first | rfl | decide +kernel
theorem kp_tup (K : W.Frag) : PySem.W.kitOne K (.type "tuple") (.type "tuple") = some true := by rfl
theorem kp_lst (K : W.Frag) : PySem.W.kitOne K (.type "list") (.type "list") = some true := by rfl
theorem norm_min (p : Int × Int) : (if p.2 < p.1 then p.2 else p.1) = (norm p).1 /\ (if p.2 > p.1 then p.2 else p.1) = (norm p).2 := by
  unfold norm
  by_cases h : p.1 <= p.2
  · simp only [h, if_true]
    constructor <;> (split <;> omega)
  · simp only [h, if_false]
    constructor <;> (split <;> omega)
def spLesser : Sp := fun vs H Q _ => ∃ a b, vs = [.int a, .int b] /\ ∀ c, H c = none -> Q (.ref c) (upd H c (.tup [.int (norm (a, b)).1, .int (norm (a, b)).2]))
section
variable {P : Program} {w : World} {K : W.Frag} {mg : Str -> Option Value} {base : Heap}
theorem scIsWhole : FnScope ["thing"] ["thing"] (defScope sIsWhole) := ⟨rfl, rfl, rfl, by decide +kernel, rfl, by decide +kernel, by decide +kernel⟩
theorem d_wholeI (T : Txt K mg) (S : Src K mg "is_whole" sIsWhole ["thing"]) : Def P w K mg base 1 "is_whole" ["thing"] spWholeI := by
  refine S.def scIsWhole (fun vs H Q E h => ?_) (fun f cdv A outer s H vs Q E hr h => ?_)
  · obtain ⟨x, rfl, _⟩ := h; rfl
  · obtain ⟨i, rfl, q⟩ := h
    refine ⟨_, pss_one (ps_ret (pe_and (pe_callB (call_isiK K) (by rfl) T.isi boot_isi (pa_cons (pv 0) (pa_cons (pe_bltn (v := .ty "int") rfl T.int boot_int' rfl) pa_nil)))
      (pe_one (pe_not (pe_callB (call_isiK K) (by rfl) T.isi boot_isi (pa_cons (pv 0) (pa_cons (pe_bltn (v := .ty "bool") rfl T.bool boot_bool' rfl) pa_nil))))))), ?_⟩
    exact ⟨_, rfl, _, _, _, _, _, rfl, rfl, .int _, kp_int K, _, rfl, iteT ⟨_, rfl, _, _, _, _, _, rfl, rfl, .int _, kp_intb K, _, rfl, q⟩⟩
def spOnce : Sp := fun vs H Q _ => ∃ (kd : Kd) (a : Addr) (m n : Nat) (ord : List Int), vs = [.ref a, .int m] /\ HK kd H a (ord.map V.int) /\ m <= 16 /\ n <= 16 /\ ord.Perm (ups n) /\ ∀ H', Same H H' -> Q (.bl (decide (n = m))) H'
theorem same_lstO {K : W.Frag} {H : Hp} {a b : Addr} {p : List Int} (h1 : SqL K H a (p.map V.int)) (h2 : SqL K H b (p.map V.int)) {Q : VK} {out : Bool} (q : Q (.bl out) H) : rSame K out (.ref a) (.ref b) H Q := by
  refine ⟨a, b, _, _, 0, rfl, rfl, .inr ⟨h1, h2⟩, rfl, by decide, fun j x y e1 e2 => ?_, q⟩
  rw [e1] at e2
  cases e2
  rw [List.getElem?_map] at e1
  cases e : p[j]? with
  | none => rw [e] at e1; cases e1
  | some k => rw [e] at e1; cases e1; exact .flat rfl
theorem scOnce : FnScope ["thing", "many"] ["thing", "many"] (defScope sEach) := ⟨rfl, rfl, rfl, by decide +kernel, rfl, by decide +kernel, by decide +kernel⟩
theorem ndk : (["number"] : List Str).Nodup := by decide +kernel
theorem d_once (T : Txt K mg) (S : Src K mg "is_each_once" sEach ["thing", "many"]) (DI : Def P w K mg base 1 "is_whole" ["thing"] spWholeI) : Def P w K mg base 2 "is_each_once" ["thing", "many"] spOnce := by
  refine S.def scOnce (fun vs H Q E h => ?_) (fun f cdv A outer s H vs Q E hr h => ?_)
  · obtain ⟨_, _, _, _, _, rfl, _⟩ := h; rfl
  · obtain ⟨kd, a, m, n, ord, rfl, ha, h20, n16, pm, q⟩ := h
    have ol : ord.length = n := by rw [pm.length_eq, ups_len]; lia
    refine ⟨_, pss_cons (ps_if (PW.pt (pw_or (pt_not (pt_val (pe_callB call_isTsF (by rfl) T.isi boot_isi (pa_cons (pv 0) (pa_cons (pe_tup (pa_cons (pe_bltn (v := .ty "list") rfl T.list boot_list' rfl) (pa_cons (pe_bltn (v := .ty "tuple") rfl T.tuple boot_tuple' rfl) pa_nil))) pa_nil)))))
        (pw_or1 (pt_not (pt_val (pe_callB (call_all rfl) (by rfl) T.all boot_all' (pa_cons (pe_comp (N' := ["number"]) (fr := [none]) (compOk_of (by rfl)) rfl (pi_seqK K kd (pv 0))
        (fun _ _ _ _ => pg_name (i := 0) ndk rfl (Or.inl rfl) (Or.inr rfl)) (fun _ _ _ _ => pifs_nil) (fun _ _ _ _ => pe_def DI hr rfl (pa_cons (pv 0) pa_nil))) pa_nil))))))) pss_never pss_nil)
      (pss_one (ps_ret (pe_cmpR (r := rEqLI K) (op_eqLI (units66 hr)) (pe_callB (call_sortedK kd) (by rfl) T.sorted boot_sorted' (pa_cons (pv 0) pa_nil)) (pe_callTy (call_list_rng rfl) rfl T.list boot_list' (pa_cons (pe_callTy call_range1 rfl T.range boot_range' (pa_cons (pv 1) pa_nil)) pa_nil)) (nomark _)))), ?_⟩
    refine ⟨_, rfl, by show 2 <= sizeLine; decide, fun p1 hp1 => ?_⟩
    have s1 := Same.new (o := HO.tup [V.ty "list", V.ty "tuple"]) hp1
    have h1 : (upd H p1 (.tup [V.ty "list", V.ty "tuple"])) p1 = some (.tup [V.ty "list", V.ty "tuple"]) := upd_same
    generalize upd H p1 (.tup [V.ty "list", V.ty "tuple"]) = H1 at s1 h1 ⊢
    have ha1 := ha.same s1
    refine ⟨a, p1, _, ord.map V.int, _, true, rfl, SqT.of h1, ?_, fun us r => kit2 K r kd, _, rfl, iteF ?_⟩
    · cases kd with
      | l => exact .inl ⟨ha1, rfl⟩
      | t => exact .inr ⟨ha1, rfl⟩
    refine ⟨_, rfl, a, rfl, ⟨_, ha1.sq⟩, comp_seq (k := kd) (a := a) (xs := ord.map V.int) (fun σ => ∃ v, σ = [v]) (fun i ys H2 => Same H1 H2 /\ ys = (List.replicate i true).map V.bl) ⟨_, rfl⟩ ⟨Same.refl _, rfl⟩ (by rw [List.length_map]; exact Nat.lt_of_le_of_lt (show ord.length <= 100 by lia) (by decide)) (fun i ys H2 _ z => (ha1.same z.1).sq) ?_ ?_⟩
    · rintro i x ys σ H2 N hx ⟨u, rfl⟩ ⟨s2, rfl⟩ hN
      rw [List.getElem?_map] at hx
      obtain ⟨k, ek, rfl⟩ : ∃ k, ord[i]? = some k /\ V.int k = x := by
        cases e : ord[i]? with
        | none => rw [e] at hx; cases hx
        | some k => rw [e] at hx; exact ⟨k, rfl, Option.some.inj hx⟩
      dsimp only [gName, List.set]
      refine yesT ⟨_, rfl, k, rfl, ?_⟩
      refine hN _ _ _ ⟨_, rfl⟩ ⟨s2, ?_⟩ (by simp)
      rw [List.replicate_succ', List.map_append]
      rfl
    · rintro ys H2 ⟨s2, rfl⟩ p2 hp2
      have s3 := Same.new (o := HO.lst ((List.replicate (ord.map V.int).length true).map V.bl)) hp2
      have h3 : (upd H2 p2 (.lst ((List.replicate (ord.map V.int).length true).map V.bl))) p2 = some (.lst ((List.replicate (ord.map V.int).length true).map V.bl)) := upd_same
      generalize upd H2 p2 (.lst ((List.replicate (ord.map V.int).length true).map V.bl)) = H3 at s3 h3 ⊢
      have ha3 := ha1.same (s2.trans s3)
      have s13 := s1.trans (s2.trans s3)
      refine ⟨p2, _, rfl, SqL.of h3, _, rfl, ?_⟩
      have al : (List.replicate (ord.map V.int).length true).all id = true := by rw [List.all_eq_true]; intro b hb; exact (List.mem_replicate.mp hb).2
      rw [al]
      refine iteF ⟨_, rfl, a, ord, rfl, ha3.sq, by lia, fun l4 ms p4 u4 hl4 => ?_⟩
      have em : ms = ups n := perm_up (p4.trans pm) u4 ((ups_up _).imp fun h => by lia)
      subst em
      have s4 := Same.new (o := HO.lst ((ups n).map V.int)) hl4
      have h4 : (upd H3 l4 (.lst ((ups n).map V.int))) l4 = some (.lst ((ups n).map V.int)) := upd_same
      generalize upd H3 l4 (.lst ((ups n).map V.int)) = H4 at s4 h4 ⊢
      refine ⟨_, rfl, _, rfl, fun p hp => ⟨p, m, rfl, upd_same, by lia, fun l hl => ?_⟩⟩
      have s5 := (Same.new (o := HO.rng 0 m) hp).trans (Same.new (o := HO.lst (upN m)) hl)
      have h5 : (upd (upd H4 p (.rng 0 m)) l (.lst (upN m))) l = some (.lst ((ups m).map V.int)) := by rw [upd_same, upN_ups]
      generalize upd (upd H4 p (.rng 0 m)) l (.lst (upN m)) = H5 at s5 h5 ⊢
      refine ⟨l4, l, ups n, ups m, rfl, rfl, SqL.of (s5 _ _ h4), SqL.of h5, ?_⟩
      have ed : decide (ups (n : Int) = ups (m : Int)) = decide (n = m) := by
        refine decide_eq_decide.mpr ⟨fun z => ?_, fun z => by rw [z]⟩
        have := congrArg List.length z
        rw [ups_len, ups_len] at this
        lia
      rw [ed]
      exact q _ (s13.trans (s4.trans s5))
theorem scLesser : FnScope ["a", "b"] ["a", "b"] (defScope sLesser) := ⟨rfl, rfl, rfl, by decide +kernel, rfl, by decide +kernel, by decide +kernel⟩
theorem d_lesser (S : Src K mg "lesser_first" sLesser ["a", "b"]) : Def P w K mg base 1 "lesser_first" ["a", "b"] spLesser := by
  refine S.def scLesser (fun vs H Q E h => ?_) (fun f cdv A outer s H vs Q E hr h => ?_)
  · obtain ⟨a, b, rfl, _⟩ := h; rfl
  · obtain ⟨a, b, rfl, q⟩ := h
    refine ⟨_, pss_one (ps_ret (pe_ifExp (pt_cmpR op_le (pv 0) (pv 1) (nomark _)) (pe_tup (pa_cons (pv 0) (pa_cons (pv 1) pa_nil))) (pe_tup (pa_cons (pv 1) (pa_cons (pv 0) pa_nil))))), ?_⟩
    refine ⟨_, rfl, _, rfl, _, _, rfl, rfl, _, rfl, ?_⟩
    by_cases hab : a <= b
    · have e : norm (a, b) = (a, b) := by simp [norm, hab]
      rw [e] at q
      rw [decide_eq_true hab]
      exact iteT ⟨_, rfl, _, rfl, by show 2 <= sizeLine; decide, q⟩
    · have e : norm (a, b) = (b, a) := by simp [norm, hab]
      rw [e] at q
      rw [decide_eq_false hab]
      exact iteF ⟨_, rfl, _, rfl, by show 2 <= sizeLine; decide, q⟩
end
noncomputable def rds (f : Nat -> Nat) (N : Nat) : List (List Nat) := if N = 0 then [[]] else (reps N (Cn f N)).map (rnd f)
theorem rds_pos {f : Nat -> Nat} {N : Nat} (h : 0 < N) : rds f N = (reps N (Cn f N)).map (rnd f) := by unfold rds; rw [if_neg (by lia)]
theorem itr_congr {f g : Nat -> Nat} {N s : Nat} (P : PermOn f N) (h : ∀ x, x < N -> f x = g x) (hs : s < N) : ∀ k, itr f s k = itr g s k
  | 0 => rfl
  | k + 1 => by
    show f (itr f s k) = g (itr g s k)
    rw [<- itr_congr P h hs k, h _ (P.itr_lt hs k)]
theorem rnd_congr {f g : Nat -> Nat} {N s : Nat} (P : PermOn f N) (h : ∀ x, x < N -> f x = g x) (hs : s < N) : rnd f s = rnd g s := by
  obtain ⟨p, _, hp⟩ := P.per hs
  have e := itr_congr P h hs
  have hp2 : Per g s p := ⟨hp.pos, by rw [<- e]; exact hp.back, fun i a b => by rw [<- e]; exact hp.no i a b⟩
  unfold rnd
  rw [per_is hp, per_is hp2]
  exact List.map_congr_left fun i _ => e i
theorem rds_congr {f g : Nat -> Nat} {N : Nat} (P : PermOn f N) (h : ∀ x, x < N -> f x = g x) : rds f N = rds g N := by
  unfold rds
  split
  · rfl
  · rw [reps_congr (R' := Cn g N) fun x y _ _ => Cn.congr h x y]
    exact List.map_congr_left fun s hs => rnd_congr P h (mem_reps.mp hs).1
theorem rnd_ne {f : Nat -> Nat} {N s : Nat} (P : PermOn f N) (hs : s < N) : ∃ l, rnd f s = s :: l := by
  obtain ⟨p, _, hp⟩ := P.per hs
  unfold rnd
  rw [per_is hp, show p = p - 1 + 1 by have := hp.pos; lia, List.range_succ_eq_map, List.map_cons]
  exact ⟨_, rfl⟩
theorem rnd_len {f : Nat -> Nat} {N s : Nat} (P : PermOn f N) (hs : s < N) : (rnd f s).length <= N := by
  obtain ⟨p, pN, hp⟩ := P.per hs
  unfold rnd
  rw [per_is hp, List.length_map, List.length_range]
  exact pN
def rowOf (rows : List (List Nat)) (e : Nat) : Nat := rows.findIdx fun r => decide (e ∈ r)
theorem rowOf_at {f : Nat -> Nat} {N : Nat} (P : PermOn f N) {i e : Nat} {r : List Nat} (h : (rds f N)[i]? = some r) (he : e ∈ r) : rowOf (rds f N) e = i := by
  by_cases c : N = 0
  · have : rds f N = [[]] := by unfold rds; rw [if_pos c]
    rw [this] at h
    cases i with
    | zero => cases h; exact nomatch he
    | succ i => cases h
  · rw [rds_pos (by lia)] at h ⊢
    have il := (List.getElem?_eq_some_iff.mp h).1
    unfold rowOf
    have hle : ((reps N (Cn f N)).map (rnd f)).findIdx (fun r => decide (e ∈ r)) <= i := by
      refine Nat.le_of_not_lt fun hlt => ?_
      have nf := List.not_of_lt_findIdx hlt
      have er := (List.getElem?_eq_some_iff.mp h).2
      rw [er] at nf
      exact of_decide_eq_false nf he
    have hp : ((reps N (Cn f N)).map (rnd f)).findIdx (fun r => decide (e ∈ r)) < ((reps N (Cn f N)).map (rnd f)).length := by lia
    have hm := of_decide_eq_true (List.findIdx_getElem (w := hp))
    generalize ((reps N (Cn f N)).map (rnd f)).findIdx (fun r => decide (e ∈ r)) = j at hle hp hm
    rw [List.length_map] at hp il
    have ei : rnd f (reps N (Cn f N))[i] = r := by
      have := (List.getElem?_eq_some_iff.mp h).2
      rw [List.getElem_map] at this
      exact this
    rw [List.getElem_map] at hm
    have m1 : (reps N (Cn f N))[i] ∈ reps N (Cn f N) := List.getElem_mem il
    have m2 : (reps N (Cn f N))[j] ∈ reps N (Cn f N) := List.getElem_mem hp
    rw [<- ei] at he
    have r1 := (mem_rnd P (mem_reps.mp m1).1).mp he
    have r2 := (mem_rnd P (mem_reps.mp m2).1).mp hm
    have eq := reps_one (cn_equ f N) m2 m1 (.trans r2 (.symm r1))
    by_cases cc : j = i
    · exact cc
    · exfalso
      have nd := List.pairwise_iff_getElem.mp (List.nodup_iff_pairwise_ne.mp (reps_nd N (Cn f N))) j i hp il (by lia)
      exact nd eq
theorem row_ex {f : Nat -> Nat} {N : Nat} (P : PermOn f N) {x : Nat} (hx : x < N) : ∃ (i : Nat) (r : List Nat), (rds f N)[i]? = some r /\ x ∈ r := by
  obtain ⟨s, _, h2, h3⟩ := rep_ex (N := N) (cn_equ f N) hx
  obtain ⟨i, hi, e⟩ := List.getElem_of_mem h3
  refine ⟨i, rnd f s, ?_, (mem_rnd P (mem_reps.mp h3).1).mpr (.symm h2)⟩
  rw [rds_pos (by lia), List.getElem?_map, List.getElem?_eq_getElem hi, e]
  rfl
theorem rowOf_lt {f : Nat -> Nat} {N : Nat} (P : PermOn f N) {x : Nat} (hx : x < N) : rowOf (rds f N) x < (rds f N).length := by
  obtain ⟨i, r, h, hr⟩ := row_ex P hx
  rw [rowOf_at P h hr]
  exact (List.getElem?_eq_some_iff.mp h).1
theorem rowOf_cn {f : Nat -> Nat} {N : Nat} (P : PermOn f N) {x y : Nat} (hx : x < N) (c : Cn f N x y) : rowOf (rds f N) x = rowOf (rds f N) y := by
  obtain ⟨i, r, h, hr⟩ := row_ex P hx
  have hy : y ∈ r := by
    rw [rds_pos (by lia), List.getElem?_map] at h
    cases e : (reps N (Cn f N))[i]? with
    | none => rw [e] at h; cases h
    | some s =>
      rw [e] at h
      have e2 : rnd f s = r := Option.some.inj h
      have hs := (mem_reps.mp (List.mem_of_getElem? e)).1
      rw [<- e2] at hr ⊢
      exact (mem_rnd P hs).mpr (.trans ((mem_rnd P hs).mp hr) c)
  rw [rowOf_at P h hr, rowOf_at P h hy]
def tiesOf (rows : List (List Nat)) (m : Nat) : List (Int × Int) := (List.range m).map fun k => norm ((rowOf rows (2 * k) : Int), (rowOf rows (2 * k + 1) : Int))
theorem tiesOf_len (rows : List (List Nat)) (m : Nat) : (tiesOf rows m).length = m := by unfold tiesOf; rw [List.length_map, List.length_range]
theorem norm_in {n a b : Int} (ha : 0 <= a) (ha' : a < n) (hb : 0 <= b) (hb' : b < n) : InN n (norm (a, b)) := by unfold norm InN; split <;> exact ⟨by assumption, by assumption, by assumption, by assumption⟩
theorem ties_in {ts : List Nat} {m : Nat} (hl : ts.length = 2 * m) (P : PermOn (fn ts) (2 * m)) : ∀ p ∈ tiesOf (rds (fn ts) (2 * m)) m, InN ((rds (fn ts) (2 * m)).length : Int) p := fun p hp => by
  obtain ⟨k, hk, rfl⟩ := List.mem_map.mp hp
  have hk' := List.mem_range.mp hk
  have h1 := rowOf_lt P (x := 2 * k) (by lia)
  have h2 := rowOf_lt P (x := 2 * k + 1) (by lia)
  exact norm_in (by lia) (by lia) (by lia) (by lia)
theorem rds_len {ts : List Nat} {m : Nat} (D : Drw ts m) : 1 <= (rds (fn ts) (2 * m)).length /\ (rds (fn ts) (2 * m)).length + (rds (phi ts) (2 * m)).length = m + 2 := by
  by_cases c : m = 0
  · subst c
    exact ⟨Nat.le_refl _, rfl⟩
  · have pl := D.plane
    unfold nV nF at pl
    rw [D.len] at pl
    rw [rds_pos (by lia), rds_pos (by lia), List.length_map, List.length_map]
    obtain ⟨r, _, _, h3⟩ := rep_ex (N := 2 * m) (cn_equ (fn ts) (2 * m)) (show 0 < 2 * m by lia)
    have := List.length_pos_of_mem h3
    exact ⟨this, pl.resolve_left c⟩
theorem rdsF_len {ts : List Nat} {m : Nat} (D : Drw ts m) : 1 <= (rds (phi ts) (2 * m)).length := by
  by_cases c : m = 0
  · subst c
    exact Nat.le_refl _
  · rw [rds_pos (by lia), List.length_map]
    obtain ⟨r, _, _, h3⟩ := rep_ex (N := 2 * m) (cn_equ (phi ts) (2 * m)) (show 0 < 2 * m by lia)
    exact List.length_pos_of_mem h3
theorem all_joined {ts : List Nat} {m : Nat} (D : Drw ts m) : (hpts ((rds (fn ts) (2 * m)).length : Int) (hdF (tiesOf (rds (fn ts) (2 * m)) m) (ups ((rds (fn ts) (2 * m)).length : Int)) (ups (m : Int)))).length = 1 := by
  have P := D.perm
  obtain ⟨n1, _⟩ := rds_len D
  have hin := ties_in D.len P
  have tl := tiesOf_len (rds (fn ts) (2 * m)) m
  have G := gh_run (n := ((rds (fn ts) (2 * m)).length : Int)) (ps := tiesOf (rds (fn ts) (2 * m)) m) (ks := ups (m : Int)) (by lia) hin (fun k hk => by
    have := mem_ups.mp hk
    rw [tl]
    exact this)
  generalize hdF (tiesOf (rds (fn ts) (2 * m)) m) (ups ((rds (fn ts) (2 * m)).length : Int)) (ups (m : Int)) = hs at G
  have step : ∀ {x y}, Jn ts x y -> (x < 2 * m ↔ y < 2 * m) /\ (x < 2 * m -> at0 hs (rowOf (rds (fn ts) (2 * m)) x) = at0 hs (rowOf (rds (fn ts) (2 * m)) y)) := fun h => by
    induction h with
    | refl x => exact ⟨Iff.rfl, fun _ => rfl⟩
    | @turn x hx =>
      have hx' : x < 2 * m := by have := D.len; lia
      exact ⟨⟨fun _ => P.lt x hx', fun _ => hx'⟩, fun _ => by rw [rowOf_cn P hx' (.step hx')]⟩
    | mate x =>
      refine ⟨⟨fun z => mate_lt z, fun z => by have := mate_lt z; rw [mate_mate] at this; exact this⟩, fun hx => ?_⟩
      have jn := G.join ((x / 2 : Nat) : Int) (mem_ups.mpr ⟨by lia, by lia⟩)
      have et : tieN (tiesOf (rds (fn ts) (2 * m)) m) ((x / 2 : Nat) : Int) = norm ((rowOf (rds (fn ts) (2 * m)) (2 * (x / 2)) : Int), (rowOf (rds (fn ts) (2 * m)) (2 * (x / 2) + 1) : Int)) := by
        unfold tieN tiesOf
        rw [Int.toNat_natCast, List.getD_eq_getElem?_getD, List.getElem?_map, List.getElem?_range (by lia)]
        rfl
      rw [et] at jn
      have jn2 : at0 hs (rowOf (rds (fn ts) (2 * m)) (2 * (x / 2))) = at0 hs (rowOf (rds (fn ts) (2 * m)) (2 * (x / 2) + 1)) := by
        rcases norm_cases ((rowOf (rds (fn ts) (2 * m)) (2 * (x / 2)) : Int), (rowOf (rds (fn ts) (2 * m)) (2 * (x / 2) + 1) : Int)) with ⟨e1, e2⟩ | ⟨e1, e2⟩
        · rw [e1, e2] at jn; exact jn
        · rw [e1, e2] at jn; exact jn.symm
      unfold mate
      by_cases c : x % 2 = 0
      · rw [if_pos c]
        rw [show 2 * (x / 2) = x by lia] at jn2
        exact jn2
      · rw [if_neg c]
        rw [show 2 * (x / 2) + 1 = x by lia, show 2 * (x / 2) = x - 1 by lia] at jn2
        exact jn2.symm
    | symm _ ih => exact ⟨ih.1.symm, fun hx => (ih.2 (ih.1.mpr hx)).symm⟩
    | trans _ _ ih1 ih2 => exact ⟨ih1.1.trans ih2.1, fun hx => (ih1.2 hx).trans (ih2.2 (ih1.1.mp hx))⟩
  have z0 : at0 hs 0 = 0 := by have := G.le 0 (by lia) (by lia); lia
  have all0 : ∀ i : Int, 0 <= i -> i < ((rds (fn ts) (2 * m)).length : Int) -> at0 hs i = 0 := fun i i0 il => by
    by_cases c : m = 0
    · have : (rds (fn ts) (2 * m)).length = 1 := by rw [c]; rfl
      rw [show i = 0 by lia]
      exact z0
    · have get : ∀ i : Nat, i < (rds (fn ts) (2 * m)).length -> ∃ s, s < 2 * m /\ rowOf (rds (fn ts) (2 * m)) s = i := fun i hi => by
        have e : (rds (fn ts) (2 * m))[i]? = some (rds (fn ts) (2 * m))[i] := List.getElem?_eq_getElem hi
        generalize (rds (fn ts) (2 * m))[i] = r at e
        have e' := e
        rw [rds_pos (by lia), List.getElem?_map] at e'
        cases es : (reps (2 * m) (Cn (fn ts) (2 * m)))[i]? with
        | none => rw [es] at e'; cases e'
        | some s =>
          rw [es] at e'
          have e2 : rnd (fn ts) s = r := Option.some.inj e'
          have hs' := (mem_reps.mp (List.mem_of_getElem? es)).1
          refine ⟨s, hs', rowOf_at P e ?_⟩
          rw [<- e2]
          exact (mem_rnd P hs').mpr (.refl s)
      obtain ⟨s, hs', e1⟩ := get i.toNat (by lia)
      obtain ⟨s0, hs0, e0⟩ := get 0 (by lia)
      have a1 := (step (D.joined s hs')).2 hs'
      have a2 := (step (D.joined s0 hs0)).2 hs0
      rw [e1, show ((i.toNat : Nat) : Int) = i by lia] at a1
      rw [e0] at a2
      rw [a1, <- a2]
      exact z0
  have eh : hpts ((rds (fn ts) (2 * m)).length : Int) hs = [0] := by
    refine perm_up (same_perm (((ups_up _).filter _).imp fun h => by lia) (by simp) fun i => ?_) (hpts_up _ _) (by simp)
    rw [mem_hpts, List.mem_singleton]
    constructor
    · rintro ⟨⟨a, b⟩, c⟩
      rw [all0 i a b] at c
      exact c.symm
    · rintro rfl
      exact ⟨⟨by lia, by lia⟩, z0⟩
  rw [eh]
  rfl
abbrev RowP (H0 H : Hp) : V -> List Nat -> Prop := fun v r => PartAt H0 H v (ci r)
def spRounds (K : W.Frag) : Sp := fun vs H Q _ => ∃ (dr : Addr) (ts : List Nat), vs = [.ref dr] /\ SqT K H dr ((ci ts).map V.int) /\ PermOn (fn ts) ts.length /\ ts.length <= 16 /\ ∀ l xs H', Same H H' -> H l = none -> H' l = some (.lst xs) -> Paired (RowP H H') xs (rds (fn ts) ts.length) -> Q (.ref l) H'
def spLands (K : W.Frag) : Sp := fun vs H Q _ => ∃ (dr : Addr) (ts : List Nat) (m : Nat), vs = [.ref dr] /\ SqT K H dr ((ci ts).map V.int) /\ PermOn (fn ts) (2 * m) /\ ts.length = 2 * m /\ m <= 8 /\ ∀ l xs H', Same H H' -> H l = none -> H' l = some (.lst xs) -> Paired (RowP H H') xs (rds (phi ts) (2 * m)) -> Q (.ref l) H'
theorem none_of {H H' : Hp} {l : Addr} (s : Same H H') (h : H' l = none) : H l = none := by
  cases e : H l with
  | none => rfl
  | some o => have := s l o e; rw [h] at this; cases this
theorem rows_was {H0 H1 H : Hp} {xs : List V} {rows : List (List Nat)} (h : Paired (RowP H1 H) xs rows) (s : Same H0 H1) : Paired (RowP H0 H) xs rows := L2.Paired.mapP h fun _ _ q => by
  obtain ⟨a, h1, h2, h3⟩ := q
  exact ⟨a, h1, none_of s h2, h3⟩
theorem rows_same {H0 H H' : Hp} {xs : List V} {rows : List (List Nat)} (h : Paired (RowP H0 H) xs rows) (e : Same H H') : Paired (RowP H0 H') xs rows := L2.Paired.mapP h fun _ _ q => PartAt.same q e
theorem line84 {n : Nat} (h : n <= 300) : n < sizeLine := Nat.lt_of_le_of_lt h (by decide)
theorem mem_ci {r : List Nat} {x : Int} : x ∈ ci r ↔ ∃ n : Nat, n ∈ r /\ (n : Int) = x := by unfold ci; rw [List.mem_map]
section
variable {P : Program} {w : World} {K : W.Frag} {mg : Str -> Option Value} {base : Heap}
theorem scRounds : FnScope ["drawing", "rounds"] ["drawing"] (defScope sRounds) := ⟨rfl, rfl, rfl, by decide +kernel, rfl, by decide +kernel, by decide +kernel⟩
theorem ndEs : (["ends"] : List Str).Nodup := by decide +kernel
theorem d_rounds (T : Txt K mg) (S : Src K mg "rounds_of" sRounds ["drawing"]) (DR : Def P w K mg base 1 "round_from" ["drawing", "start"] (spRound K)) : Def P w K mg base 2 "rounds_of" ["drawing"] (spRounds K) := by
  refine S.def scRounds (fun vs H Q E h => ?_) (fun f cdv A outer s H vs Q E hr h => ?_)
  · obtain ⟨_, _, rfl, _⟩ := h; rfl
  · obtain ⟨dr, ts, rfl, hd, PT, n16, q⟩ := h
    refine ⟨_, pss_cons (ps_if (pt_not (pt_truth (pv 0) (fun _ => rfl))) (pss_one (ps_ret (pe_lst (pa_cons (pe_lst pa_nil) pa_nil)))) pss_nil)
      (pss_cons (ps_setComp (i := 1) scRounds.nd rfl (Or.inl rfl) (N' := ["end", "drawing"]) (fr := [none, some 0]) (compOk_of (by rfl)) rfl (pi_range1 rfl T.range (pa_cons (pe_callB (call_lenK K) (by rfl) T.len PySem.boot_len (pa_cons (pv 0) pa_nil)) pa_nil))
        (fun _ _ _ _ => pg_name (i := 0) ndED rfl (Or.inl rfl) (Or.inr rfl)) (fun _ _ _ _ => pifs_nil) (fun _ _ _ _ => pe_def DR hr rfl (pa_cons (pv 1) (pa_cons (pv 0) pa_nil))))
      (pss_one (ps_ret (pe_comp (N' := ["ends"]) (fr := [none]) (compOk_of (by rfl)) rfl (pi_seqK K .l (pv 1)) (fun _ _ _ _ => pg_name (i := 0) ndEs rfl (Or.inl rfl) (Or.inr rfl))
        (fun _ _ _ _ => pifs_one (pt_cmpR op_eq (pe_ix (r := rIxL K) (ix_listK K) (pv 0) pe_int (fun _ _ => rfl)) (pe_callB (r := rMin1L K) (call_min1L rfl) (by rfl) T.min boot_min' (pa_cons (pv 0) pa_nil)) (nomark _))) (fun _ _ _ _ => pv 0))))), ?_⟩
    refine ⟨_, rfl, _, .inr (.inl ⟨_, hd, rfl⟩), ?_⟩
    by_cases n0 : ts.length = 0
    · have : ts = [] := List.length_eq_zero_iff.mp n0
      subst this
      refine iteT ⟨Nat.zero_le _, fun e he => ⟨by show 1 <= sizeLine; decide, fun l hl => ?_⟩⟩
      have s1 := Same.new (o := HO.lst []) he
      have s2 := Same.new (o := HO.lst [.ref e]) hl
      exact q l _ _ (s1.trans s2) (none_of s1 hl) upd_same (.cons ⟨e, rfl, he, s2 _ _ upd_same⟩ .nil)
    · have ez : (!((ci ts).map V.int).isEmpty) = true := by
        cases ts with
        | nil => exact absurd rfl n0
        | cons a l => rfl
      rw [ez]
      refine iteF ⟨_, rfl, dr, _, rfl, .inr hd, _, rfl, ?_, ?_, ?_⟩
      · lia
      · rw [List.length_map, ci_len]; lia
      rw [List.length_map, ci_len, Int.toNat_natCast]
      refine comp_range (lo := 0) (n := ts.length) (fun σ => ∃ v, σ = [v, some (.ref dr)]) (fun i ys H' => Same H H' /\ Paired (RowP H H') ys ((List.range i).map (rnd (fn ts)))) ⟨_, rfl⟩ ⟨Same.refl _, .nil⟩ (line84 (by lia)) ?_ ?_
      · rintro i ys σ H' N hi ⟨u, rfl⟩ ⟨sm, hy⟩ hN
        rw [show (0 : Int) + (i : Int) = (i : Int) by lia]
        dsimp only [gName, List.set]
        refine yesT ⟨_, rfl, _, rfl, dr, ts, i, rfl, sqT sm hd, PT, hi, n16, fun l H2 s2 hl hl2 => ?_⟩
        refine hN _ _ _ ⟨_, rfl⟩ ⟨sm.trans s2, ?_⟩ (by simp)
        rw [List.range_succ, List.map_append]
        exact L2.Paired.snoc (rows_same hy s2) ⟨l, rfl, none_of sm hl, hl2⟩
      rintro ys H1 ⟨s1, hy⟩ g hg
      have s2 := Same.new (o := HO.lst ys) hg
      have hy2 := rows_same hy s2
      have hg2 : (upd H1 g (.lst ys)) g = some (.lst ys) := upd_same
      have s12 := s1.trans s2
      generalize upd H1 g (.lst ys) = H2 at s2 hy2 hg2 s12 ⊢
      dsimp only [List.set]
      have yl := Paired.length hy2
      rw [List.length_map, List.length_range] at yl
      refine ⟨_, rfl, g, rfl, ⟨_, SqL.of hg2⟩, comp_seq (k := .l) (a := g) (xs := ys) (fun σ => ∃ v, σ = [v]) (fun i zs H' => H' = H2 /\ Paired (RowP H H2) zs (((List.range i).filter (isRep (Cn (fn ts) ts.length))).map (rnd (fn ts)))) ⟨_, rfl⟩ ⟨rfl, .nil⟩ (line84 (by lia)) (fun i zs H' _ z => SqL.of (by rw [z.1]; exact hg2)) ?_ ?_⟩
      · rintro i x zs σ H' N hx ⟨u, rfl⟩ ⟨rfl, hz⟩ hN
        obtain ⟨r, er, a, rfl, ha0, ha⟩ := Paired.at hy2 hx
        have il : i < ts.length := by have := (List.getElem?_eq_some_iff.mp hx).1; lia
        have e2 : r = rnd (fn ts) i := by
          rw [List.getElem?_map, List.getElem?_range il] at er
          exact (Option.some.inj er).symm
        subst e2
        obtain ⟨l, el⟩ := rnd_ne PT il
        dsimp only [gName, List.set]
        have a0 : atI ((ci (rnd (fn ts) i)).map V.int) 0 = some (.int (i : Int)) := by rw [el]; exact atI_nat (j := 0) rfl
        refine ⟨_, rfl, a, _, _, _, rfl, rfl, SqL.of ha, a0, _, rfl, a, _, rfl, SqL.of ha, by rw [el]; exact List.cons_ne_nil _ _, fun m hm hle => ⟨rfl, _, rfl, ?_⟩⟩
        have key : decide (V.int (i : Int) = V.int m) = isRep (Cn (fn ts) ts.length) i := by
          rw [Bool.eq_iff_iff, decide_eq_true_iff, isRep_iff]
          obtain ⟨k, hk, rfl⟩ := mem_ci.mp hm
          constructor
          · intro z y hy' c
            have e : (i : Int) = (k : Int) := by injection z
            have := hle (y : Int) (mem_ci.mpr ⟨y, (mem_rnd PT il).mpr c, rfl⟩)
            lia
          · intro z
            have h1 := hle (i : Int) (mem_ci.mpr ⟨i, (mem_rnd PT il).mpr (.refl i), rfl⟩)
            have h2 : ¬ k < i := fun lt => z k lt ((mem_rnd PT il).mp hk)
            rw [show (k : Int) = (i : Int) by lia]
        rw [key]
        refine ite2 (fun z => ⟨_, rfl, ?_⟩) (fun z => ?_)
        · refine hN _ _ _ ⟨_, rfl⟩ ⟨rfl, ?_⟩ (by simp)
          rw [List.range_succ, List.filter_append, List.filter_cons_of_pos z, List.map_append]
          exact L2.Paired.snoc hz ⟨a, rfl, ha0, ha⟩
        · refine hN _ _ _ ⟨_, rfl⟩ ⟨rfl, ?_⟩ (by simp)
          rw [List.range_succ, List.filter_append, List.filter_cons_of_neg z, List.filter_nil, List.append_nil]
          exact hz
      · rintro zs H' ⟨rfl, hz⟩ l hl
        rw [yl] at hz
        have s3 := Same.new (o := HO.lst zs) hl
        refine q l zs _ (s12.trans s3) (none_of s12 hl) upd_same ?_
        rw [rds_pos (by lia)]
        exact rows_same hz s3
theorem scLands : FnScope ["drawing"] ["drawing"] (defScope sLands) := ⟨rfl, rfl, rfl, by decide +kernel, rfl, by decide +kernel, by decide +kernel⟩
theorem d_lands (S : Src K mg "lands_of" sLands ["drawing"]) (DR : Def P w K mg base 2 "rounds_of" ["drawing"] (spRounds K)) (DO : Def P w K mg base 2 "other_one" ["drawing"] (spOther K)) : Def P w K mg base 3 "lands_of" ["drawing"] (spLands K) := by
  refine S.def scLands (fun vs H Q E h => ?_) (fun f cdv A outer s H vs Q E hr h => ?_)
  · obtain ⟨_, _, _, rfl, _⟩ := h; rfl
  · obtain ⟨dr, ts, m, rfl, hd, PT, tl, m8, q⟩ := h
    refine ⟨_, pss_one (ps_ret (pe_def DR hr rfl (pa_cons (pe_def DO hr rfl (pa_cons (pv 0) pa_nil)) pa_nil))), ?_⟩
    refine ⟨_, rfl, dr, ts, m, rfl, hd, tl, m8, fun t H1 s1 ht => ?_⟩
    have pl := phiL_len ts
    have cg : ∀ x, x < 2 * m -> phi ts x = fn (phiL ts) x := fun x hx => (phiL_fn (by lia)).symm
    have PF : PermOn (fn (phiL ts)) (2 * m) := PT.phi.congr cg
    refine ⟨t, phiL ts, rfl, SqT.of ht, by rw [pl, tl]; exact PF, by lia, fun l xs H2 s2 hl hl2 hx => ?_⟩
    rw [pl, tl, <- rds_congr PT.phi cg] at hx
    exact q l xs H2 (s1.trans s2) (none_of s1 hl) hl2 (rows_was hx s1)
end
structure Pts (H : Hp) (pd : Addr) (rows : List (List Nat)) (S : Nat -> Prop) (b : Nat) : Prop where
  ex : ∃ kvs : List (Key × V), H pd = some (.dK kvs) /\ (∀ x, S x -> valV kvs (.inl (x : Int)) = some (.int (rowOf rows x : Nat))) /\ kvs.length <= b
theorem Pts.same {H H' : Hp} {pd : Addr} {rows : List (List Nat)} {S : Nat -> Prop} {b : Nat} (h : Pts H pd rows S b) (s : Same H H') : Pts H' pd rows S b := by
  obtain ⟨kvs, h1, h2⟩ := h.ex
  exact ⟨kvs, s _ _ h1, h2⟩
theorem Pts.put {H : Hp} {pd : Addr} {rows : List (List Nat)} {S : Nat -> Prop} {b x i : Nat} (h : Pts H pd rows S b) (e : rowOf rows x = i) (hb : b < 300) : ∃ H2, DPut H pd (.int (x : Int)) (.int (i : Int)) H2 /\ (∃ o, H2 = upd H pd o) /\ Pts H2 pd rows (fun y => S y \/ y = x) (b + 1) := by
  obtain ⟨kvs, h1, h2, h3⟩ := h.ex
  refine ⟨_, DPut.k (k := .inl (x : Int)) h1 (line84 (by lia)), ⟨_, rfl⟩, ⟨_, upd_same, fun y hy => ?_, by have := length_putK kvs (.inl (x : Int) : Key) (.int (i : Int)); lia⟩⟩
  rw [valV_put]
  by_cases c : y = x
  · rw [c, if_pos rfl, e]
  · rw [if_neg (fun z => c (by injection z with z; lia))]
    exact h2 y (hy.resolve_right c)
theorem Pts.get {H : Hp} {pd : Addr} {rows : List (List Nat)} {S : Nat -> Prop} {b x : Nat} (h : Pts H pd rows S b) (hx : S x) : DGet H pd (.int (x : Int)) (some (.int (rowOf rows x : Nat))) := by
  obtain ⟨kvs, h1, h2, h3⟩ := h.ex
  have := DGet.k (k := .inl (x : Int)) h1
  rw [h2 x hx] at this
  exact this
theorem Pts.mono {H : Hp} {pd : Addr} {rows : List (List Nat)} {S S' : Nat -> Prop} {b b' : Nat} (h : Pts H pd rows S b) (hs : ∀ x, S' x -> S x) (hb : b <= b') : Pts H pd rows S' b' := by
  obtain ⟨kvs, h1, h2, h3⟩ := h.ex
  exact ⟨kvs, h1, fun x hx => h2 x (hs x hx), by lia⟩
def Met (rows : List (List Nat)) (i x : Nat) : Prop := ∃ (j : Nat) (r : List Nat), j < i /\ rows[j]? = some r /\ x ∈ r
theorem rds_le (f : Nat -> Nat) (N : Nat) : (rds f N).length <= N + 1 := by
  unfold rds
  split
  · exact Nat.succ_le_succ (Nat.zero_le _)
  · rw [List.length_map]
    have := List.length_filter_le (isRep (Cn f N)) (List.range N)
    rw [List.length_range] at this
    unfold reps
    lia
theorem rds_row {f : Nat -> Nat} {N : Nat} (P : PermOn f N) {r : List Nat} (h : r ∈ rds f N) : r.length <= N := by
  unfold rds at h
  split at h
  · rw [List.mem_singleton.mp h]; exact Nat.zero_le _
  · obtain ⟨s, hs, rfl⟩ := List.mem_map.mp h
    exact rnd_len P (mem_reps.mp hs).1
theorem nat_item {r : List Nat} {j : Nat} {x : V} (hx : ((ci r).map V.int)[j]? = some x) : ∃ e : Nat, r[j]? = some e /\ V.int (e : Int) = x := by
  unfold ci at hx
  rw [List.map_map, List.getElem?_map] at hx
  cases e : r[j]? with
  | none => rw [e] at hx; cases hx
  | some k => rw [e] at hx; exact ⟨k, rfl, Option.some.inj hx⟩
def spWebOf (K : W.Frag) : Sp := fun vs H Q _ => ∃ (dr : Addr) (ts : List Nat) (m : Nat), vs = [.ref dr] /\ SqT K H dr ((ci ts).map V.int) /\ PermOn (fn ts) (2 * m) /\ ts.length = 2 * m /\ m <= 8 /\ ∀ wv H', Same H H' -> WebAt H' wv ((rds (fn ts) (2 * m)).length : Int) (tiesOf (rds (fn ts) (2 * m)) m) -> Q wv H'
def spJoined : Sp := fun vs H Q _ => ∃ (wv : V) (n : Int) (ps : List (Int × Int)), vs = [wv] /\ WebAt H wv n ps /\ 1 <= n /\ n <= 9 /\ (∀ p ∈ ps, InN n p) /\ ps.length <= 8 /\ (hpts n (hdF ps (ups n) (ups (ps.length : Int)))).length = 1 /\ ∀ H', Same H H' -> Q (.bl true) H'
def spDrawing (K : W.Frag) : Sp := fun vs H Q _ => ∃ (kd : Kd) (a : Addr) (ts : List Nat) (m : Nat), vs = [.ref a] /\ HK kd H a ((ci ts).map V.int) /\ Drw ts m /\ m <= 8 /\ ∀ t H', Same H H' -> SqT K H' t ((ci ts).map V.int) -> Q (.ref t) H'
theorem perm_ups {ts : List Nat} {m : Nat} (hl : ts.length = 2 * m) (P : PermOn (fn ts) (2 * m)) : (ci ts).Perm (ups ((2 * m : Nat) : Int)) := by
  have e : ups ((2 * m : Nat) : Int) = ci (List.range (2 * m)) := by unfold ups ci; rw [Int.toNat_natCast]
  rw [e]
  unfold ci
  refine List.Perm.map _ ?_
  have el : ts = (List.range (2 * m)).map (fn ts) := by
    apply List.ext_getElem
    · rw [List.length_map, List.length_range, hl]
    · intro i h1 h2
      simp [fn, h1]
  have nd : ts.Nodup := by
    rw [el, List.nodup_iff_pairwise_ne, List.pairwise_map]
    refine List.pairwise_lt_range.imp_of_mem fun ha hb hab z => ?_
    have := P.inj _ _ (List.mem_range.mp ha) (List.mem_range.mp hb) z
    lia
  refine (List.perm_ext_iff_of_nodup nd List.nodup_range).mpr fun x => ?_
  rw [List.mem_range]
  constructor
  · intro hx
    rw [el] at hx
    obtain ⟨i, hi, rfl⟩ := List.mem_map.mp hx
    exact P.lt i (List.mem_range.mp hi)
  · intro hx
    obtain ⟨u, hu, e⟩ := P.sur hx
    rw [el]
    exact List.mem_map.mpr ⟨u, List.mem_range.mpr hu, e⟩
section
variable {P : Program} {w : World} {K : W.Frag} {mg : Str -> Option Value} {base : Heap}
theorem scWebOf : FnScope ["drawing", "rounds", "point_of", "point", "ends", "end", "many"] ["drawing"] (defScope sWebOf) := ⟨rfl, rfl, rfl, by decide +kernel, rfl, by decide +kernel, by decide +kernel⟩
theorem ndKp : (["k", "point_of"] : List Str).Nodup := by decide +kernel
theorem d_webof (T : Txt K mg) (henum : mg "enumerate" = none) (S : Src K mg "web_of" sWebOf ["drawing"]) (DR : Def P w K mg base 2 "rounds_of" ["drawing"] (spRounds K)) (DL : Def P w K mg base 1 "lesser_first" ["a", "b"] spLesser) : Def P w K mg base 3 "web_of" ["drawing"] (spWebOf K) := by
  refine S.def scWebOf (fun vs H Q E h => ?_) (fun f cdv A outer s H vs Q E hr h => ?_)
  · obtain ⟨_, _, _, rfl, _⟩ := h; rfl
  · obtain ⟨dr, ts, m, rfl, hd, PT, tl, m8, q⟩ := h
    have hr1 : Room 1 _ := hr.mono (by decide)
    refine ⟨_, pss_cons (ps_set (i := 1) scWebOf.nd rfl (Or.inl rfl) (pe_def DR hr rfl (pa_cons (pv 0) pa_nil)))
      (pss_cons (ps_set (i := 2) scWebOf.nd rfl (Or.inr rfl) pe_dnewK)
      (pss_cons (ps_for PassesOwn.never rfl (pi_enumK K .l rfl henum (pa_cons (pv 1) pa_nil)) (pg_tupK K 2 rfl (pgs_cons (pg_name (i := 3) scWebOf.nd rfl (Or.inl rfl)) (pgs_cons (pg_name (i := 4) scWebOf.nd rfl (Or.inl rfl)) pgs_nil)))
        (pss_one (ps_for PassesOwn.never rfl (pi_seqK K .l (pv 4)) (pg_name (i := 5) scWebOf.nd rfl (Or.inl rfl)) (pss_one (ps_dput (hu_of hr) (pv 2) (pv 5) (pv 3) rfl)))))
      (pss_cons (ps_set (i := 6) scWebOf.nd rfl (Or.inl rfl) (pe_op op_fdiv (pe_callB (call_lenK K) (by rfl) T.len PySem.boot_len (pa_cons (pv 0) pa_nil)) pe_int))
      (pss_one (ps_ret (pe_tup (pa_cons (pe_callB (call_lenK K) (by rfl) T.len PySem.boot_len (pa_cons (pv 1) pa_nil)) (pa_cons (pe_callTy (call_tuple_ofK K) rfl T.tuple boot_tuple' (pa_cons (pe_comp (N' := ["k", "point_of"]) (fr := [none, some 2]) (compOk_of (by rfl)) rfl (pi_range1 rfl T.range (pa_cons (pv 6) pa_nil))
        (fun _ _ _ _ => pg_name (i := 0) ndKp rfl (Or.inl rfl) (Or.inr rfl)) (fun _ _ _ _ => pifs_nil) (fun _ _ _ _ => pe_def DL hr1 rfl (pa_cons (pe_dget (hu_of hr) (pv 1) (pe_op op_mul pe_int (pv 0)) (fun _ _ => rfl)) (pa_cons (pe_dget (hu_of hr) (pv 1) (pe_op op_add (pe_op op_mul pe_int (pv 0)) pe_int) (fun _ _ => rfl)) pa_nil)))) pa_nil)) pa_nil)))))))), ?_⟩
    have PT' : PermOn (fn ts) ts.length := by rw [tl]; exact PT
    refine seq_abs fun M hM => ?_
    refine ⟨_, rfl, dr, ts, rfl, hd, PT', by lia, fun l xs H1 s1 hl0 hl hx => hM _ _ ?_⟩
    clear hM M
    rw [tl] at hx
    refine seq_abs fun M hM => ?_
    refine fun pd hpd => hM _ _ ?_
    clear hM M
    have s2 := Same.new (o := HO.dK []) hpd
    have p0 : Pts (upd H1 pd (.dK [])) pd (rds (fn ts) (2 * m)) (Met (rds (fn ts) (2 * m)) 0) 0 := ⟨[], upd_same, fun x hx => by obtain ⟨j, _, h, _⟩ := hx; exact absurd h (Nat.not_lt_zero j), Nat.le_refl _⟩
    generalize upd H1 pd (.dK []) = H2 at s2 p0 ⊢
    have xl := Paired.length hx
    have rl := rds_le (fn ts) (2 * m)
    refine seq_abs fun M hM => ?_
    refine ⟨_, rfl, l, xs, rfl, SqL.of (s2 _ _ hl), for_enum (k := .l) (K := K) (a := l) (xs := xs) (fun i σ H' => (∃ u v z, σ = [some (.ref dr), some (.ref l), some (.ref pd), u, v, z, none]) /\ Same H1 H' /\ Pts H' pd (rds (fn ts) (2 * m)) (Met (rds (fn ts) (2 * m)) i) (16 * i)) ⟨⟨_, _, _, rfl⟩, s2, p0⟩ (fun i σ H' _ z => SqL.of (z.2.1 _ _ hl)) ?_ ?_⟩
    · rintro i x p σ H3 hxi ⟨⟨u, v, z, rfl⟩, s3, p3⟩ hp
      obtain ⟨r, er, a, rfl, ha0, ha⟩ := Paired.at hx hxi
      have il := (List.getElem?_eq_some_iff.mp hxi).1
      have s4 := Same.new (o := HO.tup [.int (i : Int), .ref a]) hp
      refine ⟨p, _, rfl, SqT.of upd_same, rfl, _, _, rfl, _, _, rfl, rfl, ?_⟩
      have s14 := s3.trans s4
      have p4 := p3.same s4
      generalize upd H3 p (.tup [.int (i : Int), .ref a]) = H4 at s14 p4 ⊢
      dsimp only [List.set]
      have rlen := rds_row PT (List.mem_of_getElem? er)
      refine ⟨_, rfl, a, rfl, ⟨_, SqL.of (s14 _ _ ha)⟩, for_seq (k := .l) (K := K) (a := a) (xs := (ci r).map V.int) (fun j σ H' => (∃ z, σ = [some (.ref dr), some (.ref l), some (.ref pd), some (.int (i : Int)), some (.ref a), z, none]) /\ Same H1 H' /\ Pts H' pd (rds (fn ts) (2 * m)) (fun x => Met (rds (fn ts) (2 * m)) i x \/ x ∈ r.take j) (16 * i + j)) ⟨⟨_, rfl⟩, s14, p4.mono (fun x hx => hx.resolve_right (fun z => nomatch z)) (Nat.le_refl _)⟩ (fun j σ H' _ z => SqL.of (z.2.1 _ _ ha)) ?_ ?_⟩
      · rintro j x σ H5 hxj ⟨⟨z, rfl⟩, s5, p5⟩
        obtain ⟨e, ee, rfl⟩ := nat_item hxj
        have jl := (List.getElem?_eq_some_iff.mp ee).1
        dsimp only [gName, List.set]
        obtain ⟨H6, dp, ⟨o, eH⟩, p6⟩ := p5.put (x := e) (i := i) (rowOf_at PT er (List.mem_of_getElem? ee)) (by lia)
        refine ⟨_, rfl, _, rfl, _, rfl, pd, H6, rfl, dp, ⟨_, rfl⟩, by rw [eH]; exact Same.put84 s5 hpd, p6.mono (fun x hx => ?_) (Nat.le_refl _)⟩
        rcases hx with hx | hx
        · exact .inl (.inl hx)
        · rw [take_succ_of ee] at hx
          rcases List.mem_append.mp hx with hx | hx
          · exact .inl (.inr hx)
          · exact .inr (List.mem_singleton.mp hx)
      · rintro σ H5 ⟨⟨z, rfl⟩, s5, p5⟩
        refine ⟨⟨_, _, _, rfl⟩, s5, p5.mono (fun x hx => ?_) (by rw [List.length_map, ci_len]; lia)⟩
        obtain ⟨j, r', hj, e1, e2⟩ := hx
        by_cases c : j = i
        · rw [c, er] at e1
          cases e1
          refine .inr ?_
          rw [List.length_map, ci_len, List.take_length]
          exact e2
        · exact .inl ⟨j, r', by lia, e1, e2⟩
    rintro σ H3 ⟨⟨u, v, z, rfl⟩, s3, p3⟩
    refine hM _ _ ?_
    clear hM M
    have p3' : Pts H3 pd (rds (fn ts) (2 * m)) (fun x => x < 2 * m) 300 := p3.mono (fun x hx => by
      obtain ⟨i, r, h1, h2⟩ := row_ex PT hx
      exact ⟨i, r, by have := (List.getElem?_eq_some_iff.mp h1).1; lia, h1, h2⟩) (by lia)
    have s13 := s1.trans s3
    refine seq_abs fun M hM => ?_
    refine ⟨_, rfl, dr, _, rfl, .inr (sqT s13 hd), _, _, rfl, rfl, ⟨by decide, by decide⟩, hM _ _ ?_⟩
    clear hM M
    rw [List.length_map, ci_len, tl]
    dsimp only [List.set]
    rw [show ((2 * m : Nat) : Int) / 2 = (m : Int) by lia]
    refine ⟨_, rfl, l, xs, rfl, .inl (SqL.of (s3 _ _ hl)), _, rfl, (m : Int), rfl, by lia, by lia, ?_⟩
    rw [Int.toNat_natCast]
    refine comp_range (lo := 0) (n := m) (fun σ => ∃ v, σ = [v, some (.ref pd)]) (fun i ys H' => Same H3 H' /\ Paired (TieAt H') ys ((tiesOf (rds (fn ts) (2 * m)) m).take i)) ⟨_, rfl⟩ ⟨Same.refl _, .nil⟩ (ten_line (by lia)) ?_ ?_
    · rintro i ys σ H4 N hi ⟨u, rfl⟩ ⟨s4, hy⟩ hN
      rw [show (0 : Int) + (i : Int) = (i : Int) by lia]
      dsimp only [gName, List.set]
      have p4 := p3'.same s4
      have g1 := p4.get (x := 2 * i) (by lia)
      have g2 := p4.get (x := 2 * i + 1) (by lia)
      rw [show ((2 * i : Nat) : Int) = 2 * (i : Int) by lia] at g1
      rw [show ((2 * i + 1 : Nat) : Int) = 2 * (i : Int) + 1 by lia] at g2
      refine yesT ⟨_, rfl, _, rfl, _, _, rfl, rfl, .inl ⟨by decide, by decide⟩, pd, _, rfl, g1, _, rfl, _, rfl, _, _, rfl, rfl, .inl ⟨by decide, by decide⟩, _, _, rfl, rfl, pd, _, rfl, g2, _, _, rfl, fun c hc => ?_⟩
      have s5 := Same.new (o := HO.tup [.int (norm ((rowOf (rds (fn ts) (2 * m)) (2 * i) : Int), (rowOf (rds (fn ts) (2 * m)) (2 * i + 1) : Int))).1, .int (norm ((rowOf (rds (fn ts) (2 * m)) (2 * i) : Int), (rowOf (rds (fn ts) (2 * m)) (2 * i + 1) : Int))).2]) hc
      refine hN _ _ _ ⟨_, rfl⟩ ⟨s4.trans s5, ?_⟩ (by simp)
      have e : (tiesOf (rds (fn ts) (2 * m)) m)[i]? = some (norm ((rowOf (rds (fn ts) (2 * m)) (2 * i) : Int), (rowOf (rds (fn ts) (2 * m)) (2 * i + 1) : Int))) := by unfold tiesOf; simp [hi]
      rw [take_succ_of e]
      exact L2.Paired.snoc (ties_same hy s5) ⟨c, rfl, upd_same⟩
    · rintro ys H4 ⟨s4, hy⟩ p hp
      rw [List.take_of_length_le (by rw [tiesOf_len]; exact Nat.le_refl _)] at hy
      refine ⟨p, _, rfl, .inl ⟨SqL.of upd_same, fun t ht => ⟨by show 2 <= sizeLine; decide, fun c hc => ?_⟩⟩⟩
      have s5 := Same.new (o := HO.lst ys) hp
      have s6 := Same.new (o := HO.tup ys) ht
      have s7 := Same.new (o := HO.tup [.int (xs.length : Int), .ref t]) hc
      refine q (.ref c) _ (s13.trans (s4.trans (s5.trans (s6.trans s7)))) ⟨c, t, ys, rfl, ?_, s7 _ _ upd_same, ties_same hy (s5.trans (s6.trans s7))⟩
      rw [upd_same, xl]
theorem scJoined : FnScope ["web"] ["web"] (defScope sJoined) := ⟨rfl, rfl, rfl, by decide +kernel, rfl, by decide +kernel, by decide +kernel⟩
theorem d_joined (T : Txt K mg) (S : Src K mg "is_joined" sJoined ["web"]) (DC : Def P w K mg base 2 "clusters_of" ["web", "pick"] (spClus K)) (DW : Def P w K mg base 1 "whole_pick" ["web"] spWPF) : Def P w K mg base 3 "is_joined" ["web"] spJoined := by
  refine S.def scJoined (fun vs H Q E h => ?_) (fun f cdv A outer s H vs Q E hr h => ?_)
  · obtain ⟨_, _, _, rfl, _⟩ := h; rfl
  · obtain ⟨wv, n, ps, rfl, W, n1, n9, hb, h8, one, q⟩ := h
    have hr1 : Room 1 _ := hr.mono (by decide)
    refine ⟨_, pss_one (ps_ret (pe_cmpR op_eq (pe_callB (call_lenK K) (by rfl) T.len PySem.boot_len (pa_cons (pe_def DC hr rfl (pa_cons (pv 0) (pa_cons (pe_def DW hr1 rfl (pa_cons (pv 0) pa_nil)) pa_nil))) pa_nil)) pe_int (nomark _))), ?_⟩
    refine ⟨_, rfl, _, rfl, wv, n, ps, rfl, W, h8, fun t H1 s1 ht => ?_⟩
    refine ⟨wv, t, n, ps, ups (ps.length : Int), rfl, W.same s1, n1, n9, hb, FzT.sq ht, fun k hk => mem_ups.mp hk, fun l xs H2 s2 _ hl hx => ?_⟩
    have xl := Paired.length hx
    unfold parts at xl
    rw [List.length_map, one] at xl
    refine ⟨l, xs, rfl, .inl (SqL.of hl), rfl, ?_⟩
    rw [xl]
    exact q H2 (s1.trans s2)
end
theorem boot_any84 : bootBuiltins "any" = some (.builtin "any") := by first | rfl | decide +kernel
section
variable {P : Program} {w : World} {K : W.Frag} {mg : Str -> Option Value} {base : Heap}
theorem scDrawing : FnScope ["turns", "drawing", "web", "lands"] ["turns"] (defScope sDrawing) := ⟨rfl, rfl, rfl, by decide +kernel, rfl, by decide +kernel, by decide +kernel⟩
theorem ndMt : (["many", "turns"] : List Str).Nodup := by decide +kernel
theorem d_drawing (T : Txt K mg) (hany : mg "any" = none) {mtok : Tok} (hmt : mg "MOST_TIES" = some (.int 8 mtok)) (S : Src K mg "drawing_of" sDrawing ["turns"]) (DE : Def P w K mg base 2 "is_each_once" ["thing", "many"] spOnce) (DW : Def P w K mg base 3 "web_of" ["drawing"] (spWebOf K)) (DJ : Def P w K mg base 3 "is_joined" ["web"] spJoined) (DL : Def P w K mg base 3 "lands_of" ["drawing"] (spLands K)) : Def P w K mg base 4 "drawing_of" ["turns"] (spDrawing K) := by
  refine S.def scDrawing (fun vs H Q E h => ?_) (fun f cdv A outer s H vs Q E hr h => ?_)
  · obtain ⟨_, _, _, _, rfl, _⟩ := h; rfl
  · obtain ⟨kd, a, ts, m, rfl, ha, D, m8, q⟩ := h
    have hr2 : Room 2 _ := hr.mono (by decide)
    have PT := D.perm
    have tl := D.len
    refine ⟨_, pss_cons (ps_if (pt_not (pt_val (pe_callB (call_any rfl) (by rfl) hany boot_any84 (pa_cons (pe_comp (N' := ["many", "turns"]) (fr := [none, some 0]) (compOk_of (by rfl)) rfl (pi_range1 rfl T.range (pa_cons (pe_op op_add (pe_glob (v := .int 8) rfl hmt ⟨_, rfl⟩) pe_int) pa_nil))
        (fun _ _ _ _ => pg_name (i := 0) ndMt rfl (Or.inl rfl) (Or.inr rfl)) (fun _ _ _ _ => pifs_nil) (fun _ _ _ _ => pe_def DE hr2 rfl (pa_cons (pv 1) (pa_cons (pe_op op_mul pe_int (pv 0)) pa_nil)))) pa_nil)))) pss_never pss_nil)
      (pss_cons (ps_set (i := 1) scDrawing.nd rfl (Or.inl rfl) (pe_callTy (call_tuple_ofK K) rfl T.tuple boot_tuple' (pa_cons (pv 0) pa_nil)))
      (pss_cons (ps_set (i := 2) scDrawing.nd rfl (Or.inl rfl) (pe_def DW hr rfl (pa_cons (pv 1) pa_nil)))
      (pss_cons (ps_if (pt_not (pt_val (pe_def DJ hr rfl (pa_cons (pv 2) pa_nil)))) pss_never pss_nil)
      (pss_cons (ps_set (i := 3) scDrawing.nd rfl (Or.inl rfl) (pe_callB (call_lenK K) (by rfl) T.len PySem.boot_len (pa_cons (pe_def DL hr rfl (pa_cons (pv 1) pa_nil)) pa_nil)))
      (pss_cons (ps_if (pt_cmpR op_ne (pe_op op_add (pe_op op_sub (pe_ix (ix_tupK K) (pv 2) pe_int (fun _ _ => rfl)) (pe_callB (call_lenK K) (by rfl) T.len PySem.boot_len (pa_cons (pe_ix (ix_tupK K) (pv 2) pe_int (fun _ _ => rfl)) pa_nil))) (pv 3)) pe_int (nomark _)) pss_never pss_nil)
      (pss_one (ps_ret (pv 1)))))))), ?_⟩
    refine seq_abs fun M hM => ?_
    refine ⟨_, _, rfl, rfl, 9, rfl, by decide, by decide, ?_⟩
    refine comp_range (lo := 0) (n := 9) (fun σ => ∃ v, σ = [v, some (.ref a)]) (fun i ys H' => Same H H' /\ ys = (((List.range i).map fun k => decide (2 * m = 2 * k)) : List Bool).map V.bl) ⟨_, rfl⟩ ⟨Same.refl _, rfl⟩ (ten_line (by decide)) ?_ ?_
    · rintro i ys σ H' N hi ⟨u, rfl⟩ ⟨sm, rfl⟩ hN
      rw [show (0 : Int) + (i : Int) = (i : Int) by lia]
      dsimp only [gName, List.set]
      refine yesT ⟨_, rfl, _, rfl, _, _, rfl, rfl, .inl ⟨by decide, by decide⟩, kd, a, 2 * i, 2 * m, ci ts, ?_, ha.same sm, by lia, by lia, perm_ups tl PT, fun H2 s2 => ?_⟩
      · rw [show ((2 * i : Nat) : Int) = 2 * (i : Int) by lia]
        rfl
      · refine hN _ _ _ ⟨_, rfl⟩ ⟨sm.trans s2, ?_⟩ (by simp)
        rw [List.range_succ, List.map_append, List.map_append]
        rfl
    rintro ys H1 ⟨s1, rfl⟩ p hp
    have an : ((List.range 9).map fun k => decide (2 * m = 2 * k)).any id = true := by
      rw [List.any_map, List.any_eq_true]
      exact ⟨m, List.mem_range.mpr (by lia), decide_eq_true rfl⟩
    refine ⟨p, _, rfl, SqL.of upd_same, _, rfl, ?_⟩
    rw [an]
    have s2 := s1.trans (Same.new (o := HO.lst (((List.range 9).map fun k => decide (2 * m = 2 * k)).map V.bl)) hp)
    refine iteF (hM _ _ ?_)
    clear hM M
    have ha2 := ha.same s2
    generalize upd H1 p (.lst (((List.range 9).map fun k => decide (2 * m = 2 * k)).map V.bl)) = H2 at s2 ha2 ⊢
    refine seq_abs fun M hM => ?_
    have go : ∀ t H3, Same H H3 -> SqT K H3 t ((ci ts).map V.int) -> M [some (.ref a), some (.ref t), none, none] H3 := fun t H3 s3 ht => by
      refine hM _ _ ?_
      clear hM M
      obtain ⟨n1, eu⟩ := rds_len D
      have f1 := rdsF_len D
      refine seq_abs fun M hM => ?_
      refine ⟨_, rfl, t, ts, m, rfl, ht, PT, tl, m8, fun wv H4 s4 W => hM _ _ ?_⟩
      clear hM M
      dsimp only [List.set]
      have pl := tiesOf_len (rds (fn ts) (2 * m)) m
      refine seq_abs fun M hM => ?_
      refine ⟨_, rfl, wv, _, _, rfl, W, by lia, by lia, ties_in tl PT, by lia, by rw [pl]; exact all_joined D, fun H5 s5 => ⟨_, rfl, iteF (hM _ _ ?_)⟩⟩
      clear hM M
      refine seq_abs fun M hM => ?_
      have ht5 := sqT (s4.trans s5) ht
      refine ⟨_, rfl, t, ts, m, rfl, ht5, PT, tl, m8, fun l xs H6 s6 _ hl hx => ?_⟩
      have xl := Paired.length hx
      refine ⟨l, xs, rfl, .inl (SqL.of hl), hM _ _ ?_⟩
      clear hM M
      dsimp only [List.set]
      refine seq_abs fun M hM => ?_
      obtain ⟨c, d, zs, rfl, hc, hd, hz⟩ := (W.same (s5.trans s6)).ex
      have zl := Paired.length hz
      refine ⟨_, rfl, c, _, _, _, rfl, rfl, SqT.of hc, atI_nat (j := 0) rfl, _, rfl, c, _, _, _, rfl, rfl, SqT.of hc, atI_nat (j := 1) rfl, d, zs, rfl, .inr (SqT.of hd), _, _, rfl, rfl, _, rfl, _, _, rfl, rfl, rfl, _, rfl, ?_⟩
      rw [decide_eq_true (show V.int (((rds (fn ts) (2 * m)).length : Int) - (zs.length : Int) + (xs.length : Int)) = V.int 2 by rw [zl, pl, xl]; congr 1; lia)]
      refine iteF (hM _ _ ?_)
      exact ⟨_, rfl, q t H6 (s3.trans (s4.trans (s5.trans s6))) (sqT s6 ht5)⟩
    refine ⟨_, rfl, a, (ci ts).map V.int, rfl, ?_⟩
    cases kd with
    | l => exact .inl ⟨HK.sq (kd := .l) ha2, fun t ht => go t _ (s2.trans (Same.new ht)) (SqT.of upd_same)⟩
    | t => exact .inr ⟨HK.sq (kd := .t) ha2, go a H2 s2 (HK.sq (kd := .t) ha2)⟩
end
def gal (a : Nat) (ts : List Nat) : Nat -> Nat := if a = 0 then fn ts else phi ts
theorem gal_perm {a : Nat} {ts : List Nat} {m : Nat} (P : PermOn (fn ts) (2 * m)) : PermOn (gal a ts) (2 * m) := by
  unfold gal
  split
  · exact P
  · exact P.phi
def alo (a x : Nat) : Nat := if a = 0 then x else mate x
theorem gal_alo (a : Nat) (ts : List Nat) (x : Nat) : fn ts (alo a x) = gal a ts x := by unfold gal alo; split <;> rfl
theorem alo_lt {a x m : Nat} (h : x < 2 * m) : alo a x < 2 * m := by
  unfold alo
  split
  · exact h
  · exact mate_lt h
theorem xor16 : ∀ x ∈ List.range 16, ∀ a ∈ [0, 1], Builtin.bitXor ((x : Nat) : Int) ((a : Nat) : Int) = ((alo a x : Nat) : Int) := by decide +kernel
theorem xor_al {x a : Nat} (hx : x < 16) (ha : a = 0 \/ a = 1) : Builtin.bitXor ((x : Nat) : Int) ((a : Nat) : Int) = ((alo a x : Nat) : Int) := xor16 x (List.mem_range.mpr hx) a (by rcases ha with rfl | rfl <;> simp)
def spAt (K : W.Frag) : Sp := fun vs H Q _ => ∃ (a : Addr) (ns : List Int) (k : Nat), vs = [.ref a, .int k] /\ SqL K H a (ns.map V.int) /\ Q (.int (ns.getD k 0)) H
def spLRound : Sp := fun vs H Q _ => ∃ (lt : Addr) (ts : List Nat) (st a m : Nat), vs = [.ref lt, .int st, .int a] /\ H lt = some (.lst ((ci ts).map V.int)) /\ PermOn (fn ts) (2 * m) /\ ts.length = 2 * m /\ m <= 8 /\ st < 2 * m /\ (a = 0 \/ a = 1) /\ ∀ l H', Same H H' -> H l = none -> H' l = some (.lst ((ci (rnd (gal a ts) st)).map V.int)) -> Q (.ref l) H'
def spLRounds : Sp := fun vs H Q _ => ∃ (lt : Addr) (ts : List Nat) (a m : Nat), vs = [.ref lt, .int a] /\ H lt = some (.lst ((ci ts).map V.int)) /\ PermOn (fn ts) (2 * m) /\ ts.length = 2 * m /\ m <= 8 /\ (a = 0 \/ a = 1) /\ ∀ l xs H', Same H H' -> H l = none -> H' l = some (.lst xs) -> Paired (RowP H H') xs (rds (gal a ts) (2 * m)) -> Q (.ref l) H'
def But84 (p : Addr) (H H' : Hp) : Prop := ∀ b o, b ≠ p -> H b = some o -> H' b = some o
def spBehind : Sp := fun vs H Q _ => ∃ (lt : Addr) (ts : List Nat) (e p : Nat), vs = [.ref lt, .int e, .int p] /\ H lt = some (.lst ((ci ts).map V.int)) /\ e < ts.length /\ p < ts.length /\ ∀ H', But84 lt H H' -> H' lt = some (.lst ((ci (behind ts e p)).map V.int)) -> Q (.ref lt) H'
structure Seen (H : Hp) (sd : Addr) (S : Nat -> Prop) (b : Nat) : Prop where
  ex : ∃ kvs : List (Key × V), H sd = some (.dK kvs) /\ (∀ x : Nat, (valV kvs (.inl (x : Int))).isSome = true ↔ S x) /\ kvs.length <= b
theorem Seen.same {H H' : Hp} {sd : Addr} {S : Nat -> Prop} {b : Nat} (h : Seen H sd S b) (s : ∀ o, H sd = some o -> H' sd = some o) : Seen H' sd S b := by
  obtain ⟨kvs, h1, h2⟩ := h.ex
  exact ⟨kvs, s _ h1, h2⟩
theorem Seen.put {H : Hp} {sd : Addr} {S : Nat -> Prop} {b x : Nat} (h : Seen H sd S b) (hb : b < 300) : ∃ H2, DPut H sd (.int (x : Int)) (.bl true) H2 /\ (∃ o, H2 = upd H sd o) /\ Seen H2 sd (fun y => S y \/ y = x) (b + 1) := by
  obtain ⟨kvs, h1, h2, h3⟩ := h.ex
  refine ⟨_, DPut.k (k := .inl (x : Int)) h1 (line84 (by lia)), ⟨_, rfl⟩, ⟨_, upd_same, fun y => ?_, by have := length_putK kvs (.inl (x : Int) : Key) (.bl true); lia⟩⟩
  rw [valV_put]
  by_cases c : y = x
  · rw [c, if_pos rfl]
    exact ⟨fun _ => .inr rfl, fun _ => rfl⟩
  · rw [if_neg (fun z => c (by injection z with z; lia)), h2 y]
    exact ⟨fun z => .inl z, fun z => z.resolve_right c⟩
theorem Seen.get {H : Hp} {sd : Addr} {S : Nat -> Prop} {b : Nat} (h : Seen H sd S b) (x : Nat) : ∃ o, DGet H sd (.int (x : Int)) o /\ (o.isSome = true ↔ S x) := by
  obtain ⟨kvs, h1, h2, h3⟩ := h.ex
  exact ⟨_, DGet.k (k := .inl (x : Int)) h1, h2 x⟩
theorem Seen.congr {H : Hp} {sd : Addr} {S S' : Nat -> Prop} {b b' : Nat} (h : Seen H sd S b) (hs : ∀ x, S x ↔ S' x) (hb : b <= b') : Seen H sd S' b' := by
  obtain ⟨kvs, h1, h2, h3⟩ := h.ex
  exact ⟨kvs, h1, fun x => (h2 x).trans (hs x), by lia⟩
theorem rows_upd {H0 H : Hp} {xs : List V} {rows : List (List Nat)} {l : Addr} {o o' : HO} (h : Paired (RowP H0 H) xs rows) (hl : H0 l = some o) : Paired (RowP H0 (upd H l o')) xs rows := L2.Paired.mapP h fun _ _ q => by
  obtain ⟨a, h1, h2, h3⟩ := q
  refine ⟨a, h1, h2, ?_⟩
  rw [upd_ne (fun z => by rw [z, hl] at h2; cases h2)]
  exact h3
section
variable {P : Program} {w : World} {K : W.Frag} {mg : Str -> Option Value} {base : Heap}
theorem scAt : FnScope ["_law_script", "_law_k"] ["_law_script", "_law_k"] (defScope sAt) := ⟨rfl, rfl, rfl, by decide +kernel, rfl, by decide +kernel, by decide +kernel⟩
theorem d_at (T : Txt K mg) (S : Src K mg "_law_at" sAt ["_law_script", "_law_k"]) : Def P w K mg base 1 "_law_at" ["_law_script", "_law_k"] (spAt K) := by
  refine S.def scAt (fun vs H Q E h => ?_) (fun f cdv A outer s H vs Q E hr h => ?_)
  · obtain ⟨_, _, _, rfl, _⟩ := h; rfl
  · obtain ⟨a, ns, k, rfl, hq, q⟩ := h
    refine ⟨_, pss_cons (ps_if (pt_cmpR op_lt (pv 1) (pe_callB (call_lenK K) (by rfl) T.len PySem.boot_len (pa_cons (pv 0) pa_nil)) (nomark _)) (pss_one (ps_ret (pe_ix (ix_listK K) (pv 0) (pv 1) (fun _ _ => rfl)))) pss_nil) (pss_one (ps_ret pe_int)), ?_⟩
    refine ⟨_, rfl, _, rfl, a, _, rfl, .inl hq, _, _, rfl, rfl, _, rfl, ?_⟩
    rw [List.length_map]
    by_cases h : k < ns.length
    · rw [decide_eq_true (show (k : Int) < (ns.length : Int) by lia)]
      refine iteT ⟨_, rfl, _, rfl, a, _, _, .int (ns.getD k 0), rfl, rfl, hq, atI_nat ?_, q⟩
      rw [List.getElem?_map, List.getD_eq_getElem?_getD]
      simp [h]
    · rw [decide_eq_false (show ¬ (k : Int) < (ns.length : Int) by lia)]
      refine iteF ?_
      rw [List.getD_eq_getElem?_getD, List.getElem?_eq_none (by lia)] at q
      exact q
theorem scLRound : FnScope ["_law_turns", "_law_first", "_law_along", "_law_row", "_law_end"] ["_law_turns", "_law_first", "_law_along"] (defScope sLRound) := ⟨rfl, rfl, rfl, by decide +kernel, rfl, by decide +kernel, by decide +kernel⟩
theorem d_lround (S : Src K mg "_law_round" sLRound ["_law_turns", "_law_first", "_law_along"]) : Def P w K mg base 1 "_law_round" ["_law_turns", "_law_first", "_law_along"] spLRound := by
  refine S.def scLRound (fun vs H Q E h => ?_) (fun f cdv A outer s H vs Q E hr h => ?_)
  · obtain ⟨_, _, _, _, _, rfl, _⟩ := h; rfl
  · obtain ⟨lt, ts, st, a, m, rfl, hlt, PT, tl, m8, hs, ha, q⟩ := h
    refine ⟨_, pss_cons (ps_set (i := 3) scLRound.nd rfl (Or.inl rfl) (pe_lst (pa_cons (pv 1) pa_nil)))
      (pss_cons (ps_set (i := 4) scLRound.nd rfl (Or.inl rfl) (pe_ix (ix_listK K) (pv 0) (pe_op op_xor (pv 1) (pv 2)) (fun _ _ => rfl)))
      (pss_cons (ps_while PassesOwn.never (pt_cmpR op_ne (pv 4) (pv 1) (nomark _))
        (pss_cons (ps_expr (pe_bm PySem.F.plainAttrs_list PySem.F.slot_list_append PySem.F.type_list_append mt_append (pv 3) (pa_cons (pv 4) pa_nil)))
        (pss_one (ps_set (i := 4) scLRound.nd rfl (Or.inl rfl) (pe_ix (ix_listK K) (pv 0) (pe_op op_xor (pv 4) (pv 2)) (fun _ _ => rfl))))))
      (pss_one (ps_ret (pv 3))))), ?_⟩
    have PG := gal_perm (a := a) PT
    obtain ⟨p, pN, hp⟩ := PG.per hs
    have pp := hp.pos
    have next : ∀ x, x < 2 * m -> atI ((ci ts).map V.int) (Builtin.bitXor ((x : Nat) : Int) ((a : Nat) : Int)) = some (.int (gal a ts x : Nat)) := fun x hx => by
      rw [xor_al (by lia) ha, <- gal_alo]
      exact ci_at (by have := alo_lt (a := a) hx; lia)
    refine ⟨_, rfl, by show 1 <= sizeLine; decide, fun l hl => ?_⟩
    have s0 := Same.new (o := HO.lst [.int (st : Int)]) hl
    have h0 : (upd H l (.lst [.int (st : Int)])) l = some (.lst ((ci (wlk (gal a ts) st 0)).map V.int)) := upd_same
    have hlt0 := s0 _ _ hlt
    generalize upd H l (.lst [.int (st : Int)]) = H0 at s0 h0 hlt0 ⊢
    dsimp only [List.set]
    refine ⟨_, rfl, _, rfl, _, rfl, _, _, rfl, rfl, lt, _, _, _, rfl, rfl, SqL.of hlt0, next st hs, ?_⟩
    dsimp only [List.set]
    refine ⟨fun n σ H' => ∃ j, n + j = p /\ j + 1 <= p /\ σ = [some (.ref lt), some (.int (st : Int)), some (.int (a : Int)), some (.ref l), some (.int (itr (gal a ts) st (j + 1) : Nat))] /\ Same H H' /\ H' l = some (.lst ((ci (wlk (gal a ts) st j)).map V.int)), ⟨p, 0, rfl, by lia, rfl, s0, h0⟩, ?_⟩
    rintro n σ H' ⟨j, mj, jp, rfl, sm, hl'⟩
    refine ⟨_, rfl, _, rfl, rfl, _, rfl, ?_⟩
    by_cases c : j + 1 = p
    · rw [decide_eq_true (show V.int ((itr (gal a ts) st (j + 1) : Nat) : Int) = V.int (st : Int) by rw [c, hp.back])]
      refine iteF ⟨_, rfl, q l H' sm hl ?_⟩
      rw [hl', show j = p - 1 by lia, wlk_end hp]
    · have ne := hp.no (j + 1) (by lia) (by lia)
      rw [decide_eq_false (show ¬ V.int ((itr (gal a ts) st (j + 1) : Nat) : Int) = V.int (st : Int) from fun z => by injection z with z; exact ne (by lia))]
      refine iteT ⟨fun σ' H2 => σ' = [some (.ref lt), some (.int (st : Int)), some (.int (a : Int)), some (.ref l), some (.int (itr (gal a ts) st (j + 2) : Nat))] /\ Same H H2 /\ H2 l = some (.lst ((ci (wlk (gal a ts) st (j + 1))).map V.int)), ?_, ?_⟩
      · rintro σ' H2 ⟨rfl, s2, h2⟩
        exact ⟨n - 1, by lia, j + 1, by lia, by lia, rfl, s2, h2⟩
      · refine ⟨_, rfl, .inl ⟨rfl, _, SqL.of hl'⟩, _, rfl, l, _, _, rfl, rfl, hl', ?_, ?_⟩
        · rw [List.length_map, ci_len]
          unfold wlk
          rw [List.length_map, List.length_range]
          exact line84 (by lia)
        · have s3 : Same H (upd H' l (.lst ((ci (wlk (gal a ts) st j)).map V.int ++ [.int (itr (gal a ts) st (j + 1) : Nat)]))) := Same.put84 sm hl
          refine ⟨_, rfl, _, rfl, _, rfl, _, _, rfl, rfl, lt, _, _, _, rfl, rfl, SqL.of (s3 _ _ hlt), next _ (PG.itr_lt hs (j + 1)), rfl, s3, ?_⟩
          rw [upd_same, wlk_succ, ci_snoc]
theorem scBehind : FnScope ["_law_turns", "_law_end", "_law_new"] ["_law_turns", "_law_end", "_law_new"] (defScope sBehind) := ⟨rfl, rfl, rfl, by decide +kernel, rfl, by decide +kernel, by decide +kernel⟩
theorem ix_ok {n i : Nat} (h : i < n) : ixN n (i : Int) = some i := by
  unfold ixN
  rw [if_pos (by lia), if_pos (by lia), Int.toNat_natCast]
theorem d_behind (S : Src K mg "_law_behind" sBehind ["_law_turns", "_law_end", "_law_new"]) : Def P w K mg base 1 "_law_behind" ["_law_turns", "_law_end", "_law_new"] spBehind := by
  refine S.def scBehind (fun vs H Q E h => ?_) (fun f cdv A outer s H vs Q E hr h => ?_)
  · obtain ⟨_, _, _, _, rfl, _⟩ := h; rfl
  · obtain ⟨lt, ts, e, p, rfl, hlt, he, hp, q⟩ := h
    refine ⟨_, pss_cons (ps_asg (pe_ix (ix_listK K) (pv 0) (pv 1) (fun _ _ => rfl)) (pg_sub (pv 0) (pv 2) set_list))
      (pss_cons (ps_asg (pv 2) (pg_sub (pv 0) (pv 1) set_list)) (pss_one (ps_ret (pv 0)))), ?_⟩
    refine ⟨_, rfl, _, rfl, lt, _, _, _, rfl, rfl, SqL.of hlt, ci_at he, _, rfl, _, rfl, lt, _, _, p, rfl, rfl, hlt, ix_ok (by rw [List.length_map, ci_len]; exact hp), ?_⟩
    refine ⟨_, rfl, _, rfl, _, rfl, lt, _, _, e, rfl, rfl, upd_same, ix_ok (by rw [List.length_set, List.length_map, ci_len]; exact he), ?_⟩
    refine ⟨_, rfl, q _ (fun b o hb eb => ?_) ?_⟩
    · rw [upd_ne hb, upd_ne hb]; exact eb
    · rw [upd_same]
      unfold behind ci fn
      rw [List.map_set, List.map_set, List.map_set, List.map_set]
end
theorem reps_succ (i : Nat) (R : Nat -> Nat -> Prop) : reps (i + 1) R = reps i R ++ (if isRep R i then [i] else []) := by
  unfold reps
  rw [List.range_succ, List.filter_append]
  congr 1
  by_cases c : isRep R i = true
  · rw [List.filter_cons_of_pos c, if_pos c]; rfl
  · rw [List.filter_cons_of_neg c, if_neg c]; rfl
theorem seen_iff {N i : Nat} {R : Nat -> Nat -> Prop} (e : Equ R) (hi : i < N) : (∃ r, r ∈ reps i R /\ R r i) ↔ isRep R i = false := by
  constructor
  · rintro ⟨r, h1, h2⟩
    by_cases c : isRep R i = true
    · exact absurd (e.s h2) (isRep_iff.mp c r (mem_reps.mp h1).1)
    · simpa using c
  · intro h
    have : ∃ y, y < i /\ R i y := by
      refine Classical.byContradiction fun hn => ?_
      have : isRep R i = true := isRep_iff.mpr fun y hy z => hn ⟨y, hy, z⟩
      rw [h] at this
      cases this
    obtain ⟨y, hy, z⟩ := this
    obtain ⟨r, _, h2, h3⟩ := rep_ex (N := i) e hy
    exact ⟨r, h3, e.s (e.t z h2)⟩
def Dm (H H' : Hp) : Prop := ∀ b, H' b = none -> H b = none
theorem Dm.refl (H : Hp) : Dm H H := fun _ h => h
theorem Dm.same {H H1 H2 : Hp} (d : Dm H H1) (s : Same H1 H2) : Dm H H2 := fun b h => d b (none_of s h)
theorem Dm.upd {H H1 : Hp} (d : Dm H H1) {l : Addr} {o o' : HO} (h : H1 l = some o) : Dm H (upd H1 l o') := fun b hb => by
  by_cases c : b = l
  · rw [c, upd_same] at hb; cases hb
  · rw [upd_ne c] at hb; exact d b hb
def spGrown : Sp := fun vs H Q _ => ∃ (lo : Addr) (ts : List Nat) (m : Nat) (c : Int), vs = [.ref lo, .int c] /\ H lo = some (.lst ((ci ts).map V.int)) /\ Drw ts m /\ m <= 7 /\ ∀ (l : Addr) (us : List Nat) (H' : Hp), Same H H' -> H' l = some (.lst ((ci us).map V.int)) -> Drw us (m + 1) -> Q (.ref l) H'
section
variable {P : Program} {w : World} {K : W.Frag} {mg : Str -> Option Value} {base : Heap}
theorem scLRounds : FnScope ["_law_turns", "_law_along", "_law_found", "_law_seen", "_law_first", "_law_row", "_law_end"] ["_law_turns", "_law_along"] (defScope sLRounds) := ⟨rfl, rfl, rfl, by decide +kernel, rfl, by decide +kernel, by decide +kernel⟩
theorem d_lrounds (T : Txt K mg) (S : Src K mg "_law_rounds" sLRounds ["_law_turns", "_law_along"]) (DR : Def P w K mg base 1 "_law_round" ["_law_turns", "_law_first", "_law_along"] spLRound) : Def P w K mg base 2 "_law_rounds" ["_law_turns", "_law_along"] spLRounds := by
  refine S.def scLRounds (fun vs H Q E h => ?_) (fun f cdv A outer s H vs Q E hr h => ?_)
  · obtain ⟨_, _, _, _, rfl, _⟩ := h; rfl
  · obtain ⟨lt, ts, a, m, rfl, hlt, PT, tl, m8, ha, q⟩ := h
    refine ⟨_, pss_cons (ps_set (i := 2) scLRounds.nd rfl (Or.inl rfl) (pe_lst pa_nil))
      (pss_cons (ps_set (i := 3) scLRounds.nd rfl (Or.inl rfl) pe_dnewK)
      (pss_cons (ps_for PassesOwn.never rfl (pi_range1 rfl T.range (pa_cons (pe_callB (call_lenK K) (by rfl) T.len PySem.boot_len (pa_cons (pv 0) pa_nil)) pa_nil)) (pg_name (i := 4) scLRounds.nd rfl (Or.inl rfl))
        (pss_one (ps_if (pt_cmp (pc_dnotin (hu_of hr) (pv 4) (pv 3)) rfl)
          (pss_cons (ps_set (i := 5) scLRounds.nd rfl (Or.inl rfl) (pe_def DR hr rfl (pa_cons (pv 0) (pa_cons (pv 4) (pa_cons (pv 1) pa_nil)))))
          (pss_cons (ps_for PassesOwn.never rfl (pi_seqK K .l (pv 5)) (pg_name (i := 6) scLRounds.nd rfl (Or.inl rfl)) (pss_one (ps_dput (hu_of hr) (pv 3) (pv 6) pe_bl rfl)))
          (pss_one (ps_expr (pe_bm PySem.F.plainAttrs_list PySem.F.slot_list_append PySem.F.type_list_append mt_append (pv 2) (pa_cons (pv 5) pa_nil)))))) pss_nil)))
      (pss_cons (ps_if (pt_cmpR (op_eqNilK K (units66 hr)) (pv 2) (pe_lst pa_nil) (nomark _)) (pss_one (ps_ret (pe_lst (pa_cons (pe_lst pa_nil) pa_nil)))) pss_nil)
      (pss_one (ps_ret (pv 2)))))), ?_⟩
    have PG := gal_perm (a := a) PT
    have eq := cn_equ (gal a ts) (2 * m)
    refine seq_abs fun M hM => ?_
    refine ⟨Nat.zero_le _, fun l hl => hM _ _ ?_⟩
    clear hM M
    have s1 := Same.new (o := HO.lst []) hl
    have hl1 : (upd H l (.lst [])) l = some (.lst []) := upd_same
    generalize upd H l (.lst []) = H1 at s1 hl1 ⊢
    dsimp only [List.set]
    refine seq_abs fun M hM => ?_
    refine fun sd hsd => hM _ _ ?_
    clear hM M
    have s2 := Same.new (o := HO.dK []) hsd
    have sdH := none_of s1 hsd
    have se0 : Seen (upd H1 sd (.dK [])) sd (fun x => ∃ r, r ∈ reps 0 (Cn (gal a ts) (2 * m)) /\ Cn (gal a ts) (2 * m) r x) 0 := ⟨[], upd_same, fun x => Iff.intro (fun z => nomatch z) (fun z => by obtain ⟨r, h, _⟩ := z; exact nomatch h), Nat.le_refl _⟩
    have hl2 := s2 _ _ hl1
    have hsd2 : ∃ o, (upd H1 sd (.dK [])) sd = some o := ⟨_, upd_same⟩
    have s12 := s1.trans s2
    generalize upd H1 sd (.dK []) = H2 at se0 hl2 s12 hsd2 ⊢
    obtain ⟨osd, hsd2⟩ := hsd2
    refine seq_abs fun M hM => ?_
    refine ⟨_, rfl, lt, _, rfl, .inl (SqL.of (s12 _ _ hlt)), _, rfl, ?_, ?_, ?_⟩
    · lia
    · rw [List.length_map, ci_len]; lia
    rw [List.length_map, ci_len, tl, Int.toNat_natCast]
    refine for_range (lo := 0) (n := 2 * m) (fun i σ H' => (∃ u v z, σ = [some (.ref lt), some (.int (a : Int)), some (.ref l), some (.ref sd), u, v, z]) /\ Same H H' /\ (∃ xs, H' l = some (.lst xs) /\ xs.length <= i /\ Paired (RowP H2 H') xs ((reps i (Cn (gal a ts) (2 * m))).map (rnd (gal a ts)))) /\ Dm H2 H' /\ Seen H' sd (fun x => ∃ r, r ∈ reps i (Cn (gal a ts) (2 * m)) /\ Cn (gal a ts) (2 * m) r x) (16 * i)) ⟨⟨_, _, _, rfl⟩, s12, ⟨[], hl2, Nat.le_refl _, .nil⟩, Dm.refl _, se0⟩ ?_ ?_
    · rintro i σ H3 hi ⟨⟨u, v, z, rfl⟩, s3, ⟨xs, hl3, xl, hx⟩, dm3, se3⟩
      rw [show (0 : Int) + (i : Int) = (i : Int) by lia]
      dsimp only [gName, List.set]
      obtain ⟨o, dg, io⟩ := se3.get i
      refine ⟨_, rfl, _, rfl, sd, o, rfl, dg, _, rfl, ?_⟩
      have si := (io.trans (seen_iff eq hi))
      by_cases c : isRep (Cn (gal a ts) (2 * m)) i = true
      · have on : o.isSome = false := by
          cases ho : o.isSome with
          | false => rfl
          | true => rw [si.mp ho] at c; cases c
        rw [on]
        refine iteT ⟨_, rfl, _, rfl, _, rfl, lt, ts, i, a, m, rfl, s3 _ _ hlt, PT, tl, m8, hi, ha, fun r H4 s4 hr0 hr4 => ?_⟩
        dsimp only [List.set]
        have rl := rnd_len PG hi
        have nl : r ≠ l := fun z => by rw [z, hl3] at hr0; cases hr0
        have nsd : r ≠ sd := fun z => by
          obtain ⟨kvs, hk, _⟩ := se3.ex
          rw [z, hk] at hr0
          cases hr0
        have lsd : l ≠ sd := ne_of_none hl1 hsd
        have se4 := se3.same (fun o e => s4 _ _ e)
        refine ⟨_, rfl, r, rfl, ⟨_, SqL.of hr4⟩, for_seq (k := .l) (K := K) (a := r) (xs := (ci (rnd (gal a ts) i)).map V.int) (fun j σ H' => (∃ z, σ = [some (.ref lt), some (.int (a : Int)), some (.ref l), some (.ref sd), some (.int (i : Int)), some (.ref r), z]) /\ Same H H' /\ H' l = some (.lst xs) /\ H' r = some (.lst ((ci (rnd (gal a ts) i)).map V.int)) /\ Paired (RowP H2 H') xs ((reps i (Cn (gal a ts) (2 * m))).map (rnd (gal a ts))) /\ Dm H2 H' /\ Seen H' sd (fun x => (∃ r, r ∈ reps i (Cn (gal a ts) (2 * m)) /\ Cn (gal a ts) (2 * m) r x) \/ x ∈ (rnd (gal a ts) i).take j) (16 * i + j))
          ⟨⟨_, rfl⟩, s3.trans s4, s4 _ _ hl3, hr4, rows_same hx s4, dm3.same s4, se4.congr (fun x => ⟨fun h => .inl h, fun h => h.resolve_right (fun z => nomatch z)⟩) (Nat.le_refl _)⟩ (fun j σ H' _ z => SqL.of z.2.2.2.1) ?_ ?_⟩
        · rintro j x σ H5 hxj ⟨⟨z, rfl⟩, s5, hl5, hr5, hx5, dm5, se5⟩
          obtain ⟨e, ee, rfl⟩ := nat_item hxj
          have jl := (List.getElem?_eq_some_iff.mp ee).1
          dsimp only [gName, List.set]
          obtain ⟨H6, dp, ⟨o6, eH⟩, se6⟩ := se5.put (x := e) (by lia)
          obtain ⟨kv5, hk5, _⟩ := se5.ex
          refine ⟨_, rfl, _, rfl, sd, H6, rfl, dp, ⟨_, rfl⟩, by rw [eH]; exact Same.put84 s5 sdH, by rw [eH, upd_ne lsd]; exact hl5, by rw [eH, upd_ne nsd]; exact hr5, by rw [eH]; exact rows_upd hx5 hsd2, by rw [eH]; exact dm5.upd hk5, se6.congr (fun x => ?_) (Nat.le_refl _)⟩
          rw [take_succ_of ee, List.mem_append, List.mem_singleton, or_assoc]
        · rintro σ H5 ⟨⟨z, rfl⟩, s5, hl5, hr5, hx5, dm5, se5⟩
          refine ⟨_, rfl, .inl ⟨rfl, _, SqL.of hl5⟩, _, rfl, l, _, _, rfl, rfl, hl5, line84 (by lia), ⟨_, _, _, rfl⟩, Same.put84 s5 hl, ⟨_, upd_same, by rw [List.length_append, List.length_singleton]; lia, ?_⟩, dm5.upd hl5, ?_⟩
          · rw [reps_succ, if_pos c, List.map_append]
            exact L2.Paired.snoc (rows_upd hx5 hl2) ⟨r, rfl, dm3 r hr0, by rw [upd_ne nl]; exact hr5⟩
          · refine (se5.same fun o e => by rw [upd_ne (Ne.symm lsd)]; exact e).congr (fun x => ?_) (by rw [List.length_map, ci_len]; lia)
            rw [List.length_map, ci_len, List.take_length, mem_rnd PG hi, reps_succ, if_pos c]
            constructor
            · rintro (⟨r', h1, h2⟩ | h)
              · exact ⟨r', List.mem_append.mpr (.inl h1), h2⟩
              · exact ⟨i, List.mem_append.mpr (.inr (List.mem_singleton.mpr rfl)), h⟩
            · rintro ⟨r', h1, h2⟩
              rcases List.mem_append.mp h1 with h1 | h1
              · exact .inl ⟨r', h1, h2⟩
              · rw [List.mem_singleton.mp h1] at h2; exact .inr h2
      · have cf : isRep (Cn (gal a ts) (2 * m)) i = false := by simpa using c
        have on : o.isSome = true := si.mpr cf
        rw [on]
        refine iteF ⟨⟨_, _, _, rfl⟩, s3, ⟨xs, hl3, by lia, ?_⟩, dm3, se3.congr (fun x => ?_) (by lia)⟩
        · rw [reps_succ, if_neg c, List.append_nil]; exact hx
        · rw [reps_succ, if_neg c, List.append_nil]
    rintro σ H3 ⟨⟨u, v, z, rfl⟩, s3, ⟨xs, hl3, xl, hx⟩, dm3, se3⟩
    refine hM _ _ ?_
    clear hM M
    have hx0 := rows_was hx s12
    refine ⟨_, rfl, Nat.zero_le _, fun e he => ⟨l, e, xs, rfl, rfl, SqL.of (Same.new he _ _ hl3), SqL.of upd_same, _, rfl, ?_⟩⟩
    have s4 := s3.trans (Same.new (o := HO.lst []) he)
    have pl := Paired.length hx0
    by_cases c : m = 0
    · subst c
      have : xs = [] := List.length_eq_zero_iff.mp (by rw [pl]; rfl)
      subst this
      refine iteT ⟨Nat.zero_le _, fun e2 he2 => ⟨by show 1 <= sizeLine; decide, fun l2 hl2' => ?_⟩⟩
      have s5 := Same.new (o := HO.lst []) he2
      have s6 := Same.new (o := HO.lst [.ref e2]) hl2'
      exact q l2 _ _ (s4.trans (s5.trans s6)) (none_of (s4.trans s5) hl2') upd_same (.cons ⟨e2, rfl, none_of s4 he2, s6 _ _ upd_same⟩ .nil)
    · have ne : xs ≠ [] := fun z => by
        obtain ⟨r, _, _, h3⟩ := rep_ex (N := 2 * m) eq (show 0 < 2 * m by lia)
        have := List.length_pos_of_mem h3
        rw [z, List.length_map] at pl
        simp at pl
        rw [pl] at this
        simp at this
      rw [decide_eq_false ne]
      refine iteF ⟨_, rfl, q l xs _ s4 hl (Same.new he _ _ hl3) ?_⟩
      rw [rds_pos (by lia)]
      exact rows_same hx0 (Same.new he)
theorem scGrown : FnScope ["_law_old", "_law_cell", "_law_many", "_law_p", "_law_q", "_law_turns", "_law_end", "_law_land", "_law_goal"] ["_law_old", "_law_cell"] (defScope sGrown) := ⟨rfl, rfl, rfl, by decide +kernel, rfl, by decide +kernel, by decide +kernel⟩
theorem d_grown (T : Txt K mg) (S : Src K mg "_law_grown" sGrown ["_law_old", "_law_cell"]) (DB : Def P w K mg base 1 "_law_behind" ["_law_turns", "_law_end", "_law_new"] spBehind) (DR : Def P w K mg base 1 "_law_round" ["_law_turns", "_law_first", "_law_along"] spLRound) : Def P w K mg base 2 "_law_grown" ["_law_old", "_law_cell"] spGrown := by
  refine S.def scGrown (fun vs H Q E h => ?_) (fun f cdv A outer s H vs Q E hr h => ?_)
  · obtain ⟨_, _, _, _, rfl, _⟩ := h; rfl
  · obtain ⟨lo, ts, m, c, rfl, hlo, D, m7, q⟩ := h
    refine ⟨_, pss_cons (ps_set (i := 2) scGrown.nd rfl (Or.inl rfl) (pe_callB (call_lenK K) (by rfl) T.len PySem.boot_len (pa_cons (pv 0) pa_nil)))
      (pss_cons (ps_set (i := 3) scGrown.nd rfl (Or.inl rfl) (pe_op op_add (pv 2) (pe_op op_mod (pv 1) pe_int)))
      (pss_cons (ps_set (i := 4) scGrown.nd rfl (Or.inl rfl) (pe_op op_sub (pe_op op_add (pv 2) pe_int) (pe_op op_mod (pv 1) pe_int)))
      (pss_cons (ps_if (pt_cmpR op_eq (pv 2) pe_int (nomark _)) (pss_one (ps_ret (pe_ix (ix_listK K) (pe_lst (pa_cons (pe_lst (pa_cons pe_int (pa_cons pe_int pa_nil))) (pa_cons (pe_lst (pa_cons pe_int (pa_cons pe_int pa_nil))) pa_nil))) (pe_op op_mod (pe_op op_fdiv (pv 1) pe_int) pe_int) (fun _ _ => rfl)))) pss_nil)
      (pss_cons (ps_set (i := 5) scGrown.nd rfl (Or.inl rfl) (pe_op op_cat (pe_callTy (call_list_ofK K) rfl T.list boot_list' (pa_cons (pv 0) pa_nil)) (pe_lst (pa_cons (pv 2) (pa_cons (pe_op op_add (pv 2) pe_int) pa_nil)))))
      (pss_cons (ps_set (i := 6) scGrown.nd rfl (Or.inl rfl) (pe_op op_mod (pe_op op_fdiv (pv 1) pe_int) (pv 2)))
      (pss_cons (ps_if (pt_cmpR op_eq (pe_op op_mod (pe_op op_fdiv (pv 1) pe_int) pe_int) pe_int (nomark _)) (pss_one (ps_ret (pe_def DB hr rfl (pa_cons (pv 5) (pa_cons (pv 6) (pa_cons (pv 3) pa_nil)))))) pss_nil)
      (pss_cons (ps_set (i := 7) scGrown.nd rfl (Or.inl rfl) (pe_def DR hr rfl (pa_cons (pv 0) (pa_cons (pe_ix (ix_listK K) (pv 0) (pv 6) (fun _ _ => rfl)) (pa_cons pe_int pa_nil)))))
      (pss_cons (ps_set (i := 8) scGrown.nd rfl (Or.inl rfl) (pe_bm PySem.F.plainAttrs_list PySem.F.slot_list_index PySem.F.type_list_index mt_lindex (pv 0) (pa_cons (pe_ix (ix_listK K) (pv 7) (pe_op op_mod (pe_op op_fdiv (pv 1) pe_int) (pe_callB (call_lenK K) (by rfl) T.len PySem.boot_len (pa_cons (pv 7) pa_nil))) (fun _ _ => rfl)) pa_nil)))
      (pss_one (ps_ret (pe_def DB hr rfl (pa_cons (pe_def DB hr rfl (pa_cons (pv 5) (pa_cons (pv 6) (pa_cons (pv 3) pa_nil)))) (pa_cons (pv 8) (pa_cons (pv 4) pa_nil)))))))))))))), ?_⟩
    have tl := D.len
    have PT := D.perm
    have md := mod_in c 2 (by decide)
    obtain ⟨pn, ep⟩ : ∃ pn : Nat, ((2 * m : Nat) : Int) + c % 2 = (pn : Int) := ⟨(((2 * m : Nat) : Int) + c % 2).toNat, by lia⟩
    have pc : pn = 2 * m \/ pn = 2 * m + 1 := by lia
    have eq : ((2 * m : Nat) : Int) + 1 - c % 2 = ((mate pn : Nat) : Int) := by
      unfold mate
      split <;> lia
    refine seq_abs fun M hM => ?_
    refine ⟨_, rfl, lo, _, rfl, .inl (SqL.of hlo), hM _ _ ?_⟩
    clear hM M
    rw [List.length_map, ci_len, tl]
    dsimp only [List.set]
    refine seq_abs fun M hM => ?_
    refine ⟨_, rfl, _, rfl, _, _, rfl, rfl, (by show (0 : Int) < 2; decide), _, _, rfl, rfl, hM _ _ ?_⟩
    clear hM M
    dsimp only [List.set]
    rw [ep]
    refine seq_abs fun M hM => ?_
    refine ⟨_, rfl, _, _, rfl, rfl, _, rfl, _, _, rfl, rfl, (by show (0 : Int) < 2; decide), _, _, rfl, rfl, hM _ _ ?_⟩
    clear hM M
    dsimp only [List.set]
    rw [eq]
    refine seq_abs fun M hM => ?_
    refine ⟨_, rfl, rfl, _, rfl, ?_⟩
    by_cases m0 : m = 0
    · clear hM
      subst m0
      rw [decide_eq_true (show V.int ((2 * 0 : Nat) : Int) = V.int 0 from rfl)]
      refine iteT ⟨by show 2 <= sizeLine; decide, fun l1 hl1 => ⟨by show 2 <= sizeLine; decide, fun l2 hl2 => ⟨by show 2 <= sizeLine; decide, fun l3 hl3 => ?_⟩⟩⟩
      have s1 := Same.new (o := HO.lst [.int 0, .int 1]) hl1
      have s2 := Same.new (o := HO.lst [.int 1, .int 0]) hl2
      have s3 := Same.new (o := HO.lst [.ref l1, .ref l2]) hl3
      have g1 := s3 _ _ (s2 _ _ (upd_same (H := H) (a := l1) (o := HO.lst [.int 0, .int 1])))
      have g2 := s3 _ _ (upd_same (H := upd H l1 (.lst [.int 0, .int 1])) (a := l2) (o := HO.lst [.int 1, .int 0]))
      have g3 : (upd (upd (upd H l1 (.lst [.int 0, .int 1])) l2 (.lst [.int 1, .int 0])) l3 (.lst [.ref l1, .ref l2])) l3 = some (.lst [.ref l1, .ref l2]) := upd_same
      have s123 := s1.trans (s2.trans s3)
      generalize upd (upd (upd H l1 (.lst [.int 0, .int 1])) l2 (.lst [.int 1, .int 0])) l3 (.lst [.ref l1, .ref l2]) = H3 at g1 g2 g3 s123 ⊢
      have md2 := mod_in (c / 2) 2 (by decide)
      refine ⟨_, rfl, _, _, rfl, rfl, ⟨by decide, by decide⟩, _, _, rfl, rfl, (by show (0 : Int) < 2; decide), ?_⟩
      have : c / 2 % 2 = 0 \/ c / 2 % 2 = 1 := by lia
      rcases this with e | e
      · refine ⟨l3, _, _, _, rfl, rfl, SqL.of g3, by rw [e]; exact atI_nat (j := 0) rfl, q l1 [0, 1] H3 s123 g1 drw01⟩
      · refine ⟨l3, _, _, _, rfl, rfl, SqL.of g3, by rw [e]; exact atI_nat (j := 1) rfl, q l2 [1, 0] H3 s123 g2 drw10⟩
    · rw [decide_eq_false (show ¬ V.int ((2 * m : Nat) : Int) = V.int 0 from fun z => by injection z with z; lia)]
      refine iteF (hM _ _ ?_)
      clear hM M
      refine seq_abs fun M hM => ?_
      refine ⟨_, rfl, lo, _, rfl, .inl (SqL.of hlo), fun l1 hl1 => ?_⟩
      have s1 := Same.new (o := HO.lst ((ci ts).map V.int)) hl1
      refine ⟨_, rfl, _, rfl, _, _, rfl, rfl, by show 2 <= sizeLine; decide, fun l2 hl2 => ?_⟩
      have s2 := Same.new (o := HO.lst [.int ((2 * m : Nat) : Int), .int (((2 * m : Nat) : Int) + 1)]) hl2
      refine ⟨l1, l2, _, _, rfl, rfl, s2 _ _ upd_same, upd_same, Nat.le_of_lt (line84 (by rw [List.length_map, ci_len]; show ts.length + 2 <= 300; lia)), fun l3 hl3 => hM _ _ ?_⟩
      clear hM M
      have e2 : (ci ts).map V.int ++ [.int ((2 * m : Nat) : Int), .int (((2 * m : Nat) : Int) + 1)] = (ci (two ts)).map V.int := by
        unfold two ci
        rw [List.map_append, List.map_append, tl]
        rfl
      rw [e2]
      have s3 := Same.new (o := HO.lst ((ci (two ts)).map V.int)) hl3
      have h3 : (upd (upd (upd H l1 (.lst ((ci ts).map V.int))) l2 (.lst [.int ((2 * m : Nat) : Int), .int (((2 * m : Nat) : Int) + 1)])) l3 (.lst ((ci (two ts)).map V.int))) l3 = some (.lst ((ci (two ts)).map V.int)) := upd_same
      have s123 := s1.trans (s2.trans s3)
      have l3H := none_of (s1.trans s2) hl3
      generalize upd (upd (upd H l1 (.lst ((ci ts).map V.int))) l2 (.lst [.int ((2 * m : Nat) : Int), .int (((2 * m : Nat) : Int) + 1)])) l3 (.lst ((ci (two ts)).map V.int)) = H3 at h3 s123 ⊢
      have md8 := mod_in (c / 8) ((2 * m : Nat) : Int) (by lia)
      obtain ⟨en, ee⟩ : ∃ en : Nat, c / 8 % ((2 * m : Nat) : Int) = (en : Int) := ⟨(c / 8 % ((2 * m : Nat) : Int)).toNat, by lia⟩
      rw [ee] at md8
      have he : en < 2 * m := by lia
      refine seq_abs fun M hM => ?_
      refine ⟨_, rfl, _, _, rfl, rfl, ⟨by decide, by decide⟩, _, rfl, _, _, rfl, rfl, (by show (0 : Int) < ((2 * m : Nat) : Int); lia), hM _ _ ?_⟩
      clear hM M
      dsimp only [List.set]
      rw [ee]
      have t2 := two_len ts
      have toS : ∀ {H4 : Hp}, But84 l3 H3 H4 -> Same H H4 := fun b x o e => b x o (ne_of_none e l3H) (s123 _ _ e)
      refine seq_abs fun M hM => ?_
      refine ⟨_, rfl, _, _, rfl, rfl, ⟨by decide, by decide⟩, _, _, rfl, rfl, (by show (0 : Int) < 4; decide), rfl, _, rfl, ?_⟩
      refine ite2 (fun _ => ?_) (fun _ => hM _ _ ?_)
      · refine ⟨_, rfl, _, rfl, _, rfl, l3, two ts, en, pn, rfl, h3, by lia, by lia, fun H4 b4 h4 => ?_⟩
        exact q l3 _ H4 (toS b4) h4 (grow1 D (by lia) he pc)
      · clear hM M
        have hlo3 := s123 _ _ hlo
        refine seq_abs fun M hM => ?_
        refine ⟨_, rfl, _, rfl, _, rfl, lo, _, _, _, rfl, rfl, SqL.of hlo3, ci_at (by lia), lo, ts, fn ts en, 1, m, rfl, hlo3, PT, tl, by lia, PT.lt en he, .inr rfl, fun l5 H5 s5 hl5 h5 => hM _ _ ?_⟩
        clear hM M
        have eg : gal 1 ts = phi ts := rfl
        rw [eg] at h5
        have hfe := PT.lt en he
        obtain ⟨lr, elr⟩ := rnd_ne PT.phi hfe
        have rpos : 0 < (rnd (phi ts) (fn ts en)).length := by rw [elr]; exact Nat.succ_pos _
        have md128 := mod_in (c / 128) ((rnd (phi ts) (fn ts en)).length : Int) (by lia)
        obtain ⟨kn, ek⟩ : ∃ kn : Nat, c / 128 % ((rnd (phi ts) (fn ts en)).length : Int) = (kn : Int) := ⟨(c / 128 % ((rnd (phi ts) (fn ts en)).length : Int)).toNat, by lia⟩
        rw [ek] at md128
        have kl : kn < (rnd (phi ts) (fn ts en)).length := by lia
        have vm : (rnd (phi ts) (fn ts en))[kn] ∈ rnd (phi ts) (fn ts en) := List.getElem_mem kl
        have vc := (mem_rnd PT.phi hfe).mp vm
        have vl := (cn_reach PT.phi vc).1.mp hfe
        obtain ⟨g, hg, eg2⟩ := PT.sur vl
        have at5 : atI ((ci (rnd (phi ts) (fn ts en))).map V.int) (kn : Int) = some (.int ((rnd (phi ts) (fn ts en))[kn] : Nat)) := by
          refine atI_nat (j := kn) ?_
          unfold ci
          simp [kl]
        have gi : (ci ts)[g]? = some (((rnd (phi ts) (fn ts en))[kn] : Nat) : Int) := by
          rw [<- eg2]
          unfold ci fn
          simp [show g < ts.length by lia]
        have gn : ∀ j, j < g -> (ci ts)[j]? ≠ some (((rnd (phi ts) (fn ts en))[kn] : Nat) : Int) := fun j hj z => by
          have jl : j < ts.length := by lia
          have : (ci ts)[j]? = some ((fn ts j : Nat) : Int) := by unfold ci fn; simp [jl]
          rw [this] at z
          have z2 : ((fn ts j : Nat) : Int) = (((rnd (phi ts) (fn ts en))[kn] : Nat) : Int) := Option.some.inj z
          have := PT.inj j g (by lia) hg (by rw [eg2]; lia)
          lia
        have hlo5 := s5 _ _ hlo3
        refine seq_abs fun M hM => ?_
        refine ⟨_, rfl, .inl ⟨rfl, _, SqL.of hlo5⟩, _, rfl, _, rfl, _, _, rfl, rfl, ⟨by decide, by decide⟩, _, rfl, l5, _, rfl, .inl (SqL.of h5), ?_⟩
        rw [List.length_map, ci_len]
        refine ⟨_, _, rfl, rfl, (by show (0 : Int) < ((rnd (phi ts) (fn ts en)).length : Int); lia), ?_⟩
        dsimp only
        rw [ek]
        refine ⟨l5, _, _, _, rfl, rfl, SqL.of h5, at5, lo, ci ts, _, g, rfl, rfl, hlo5, by rw [ci_len]; lia, gi, gn, hM _ _ ?_⟩
        clear hM M
        have h35 := s5 _ _ h3
        refine ⟨_, rfl, _, rfl, _, rfl, l3, two ts, en, pn, rfl, h35, by lia, by lia, fun H6 b6 h6 => ?_⟩
        have bl := behind_len (two ts) en pn
        have mp : mate pn = 2 * m \/ mate pn = 2 * m + 1 := by unfold mate; split <;> lia
        refine ⟨_, rfl, _, rfl, l3, behind (two ts) en pn, g, mate pn, rfl, h6, by lia, by lia, fun H7 b7 h7 => ?_⟩
        have sm : Same H H7 := fun x o e => by
          have nx := ne_of_none e l3H
          exact b7 x o nx (b6 x o nx (s5 _ _ (s123 _ _ e)))
        refine q l3 _ H7 sm h7 (grow2 D (by lia) he hg pc ?_)
        rw [eg2]
        exact vc
end
def bb (R : Int) (k : Nat) : Nat := (R / 2 ^ k % 2).toNat
theorem bb_is (R : Int) (k : Nat) : Builtin.bitAnd (R / 2 ^ ((k : Int)).toNat) 1 = ((bb R k : Nat) : Int) /\ (bb R k = 0 \/ bb R k = 1) := by
  rw [PyProof.Rows.bitAnd_m1, Int.toNat_natCast]
  have := mod_in (R / 2 ^ k) 2 (by decide)
  unfold bb
  generalize R / 2 ^ k % 2 = z at this
  exact ⟨by lia, by lia⟩
def tau (ord : List Nat) (R : Int) (x : Nat) : Nat := 2 * ord.getD (x / 2) 0 + alo (bb R (x / 2)) x % 2
theorem alo_mod {b x : Nat} (hb : b = 0 \/ b = 1) : alo b x % 2 = (x + b) % 2 := by
  rcases hb with rfl | rfl
  · rfl
  · show mate x % 2 = _
    unfold mate
    split <;> lia
section
variable {ord : List Nat} {R : Int} {m : Nat}
theorem ord_lt (pm : ord.Perm (List.range m)) {k : Nat} (hk : k < m) : ord.getD k 0 < m := by
  have kl : k < ord.length := by rw [pm.length_eq, List.length_range]; exact hk
  rw [List.getD_eq_getElem?_getD, List.getElem?_eq_getElem kl]
  exact List.mem_range.mp (pm.mem_iff.mp (List.getElem_mem kl))
theorem tau_lt (pm : ord.Perm (List.range m)) {x : Nat} (hx : x < 2 * m) : tau ord R x < 2 * m := by
  have := ord_lt pm (k := x / 2) (by lia)
  unfold tau
  lia
theorem tau_mate (x : Nat) : tau ord R (mate x) = mate (tau ord R x) := by
  have h2 : mate x / 2 = x / 2 := by unfold mate; split <;> lia
  have hb := (bb_is R (x / 2)).2
  unfold tau
  rw [h2, alo_mod hb, alo_mod hb]
  generalize ord.getD (x / 2) 0 = o
  generalize bb R (x / 2) = b at hb
  unfold mate
  split <;> split <;> lia
theorem tau_perm (pm : ord.Perm (List.range m)) : PermOn (tau ord R) (2 * m) := by
  refine ⟨fun x hx => tau_lt pm hx, fun x y hx hy e => ?_⟩
  have bx := (bb_is R (x / 2)).2
  have hby := (bb_is R (y / 2)).2
  unfold tau at e
  rw [alo_mod bx, alo_mod hby] at e
  have eo : ord.getD (x / 2) 0 = ord.getD (y / 2) 0 := by lia
  have lx : x / 2 < ord.length := by rw [pm.length_eq, List.length_range]; lia
  have ly : y / 2 < ord.length := by rw [pm.length_eq, List.length_range]; lia
  have exy : x / 2 = y / 2 := by
    rw [List.getD_eq_getElem?_getD, List.getElem?_eq_getElem lx, List.getD_eq_getElem?_getD, List.getElem?_eq_getElem ly] at eo
    have nd : ord.Nodup := pm.nodup_iff.mpr List.nodup_range
    refine Classical.byContradiction fun hn => ?_
    have pw := List.pairwise_iff_getElem.mp (List.nodup_iff_pairwise_ne.mp nd)
    by_cases c : x / 2 < y / 2
    · exact pw _ _ lx ly c eo
    · exact pw _ _ ly lx (by lia) eo.symm
  rw [exy] at e bx
  lia
end
def spNumbered : Sp := fun vs H Q _ => ∃ (lo : Addr) (ts : List Nat) (m : Nat) (c : Int), vs = [.ref lo, .int c] /\ H lo = some (.lst ((ci ts).map V.int)) /\ Drw ts m /\ m <= 8 /\ ∀ (l : Addr) (us : List Nat) (H' : Hp), Same H H' -> H' l = some (.lst ((ci us).map V.int)) -> Drw us m -> Q (.ref l) H'
section
variable {P : Program} {w : World} {K : W.Frag} {mg : Str -> Option Value} {base : Heap}
theorem scNumbered : FnScope ["_law_turns", "_law_cell", "_law_row", "_law_rest", "_law_k", "_law_made", "_law_end", "_law_after", "_law_new"] ["_law_turns", "_law_cell"] (defScope sNumbered) := ⟨rfl, rfl, rfl, by decide +kernel, rfl, by decide +kernel, by decide +kernel⟩
theorem d_numbered (T : Txt K mg) (henum : mg "enumerate" = none) (S : Src K mg "_law_numbered" sNumbered ["_law_turns", "_law_cell"]) : Def P w K mg base 1 "_law_numbered" ["_law_turns", "_law_cell"] spNumbered := by
  refine S.def scNumbered (fun vs H Q E h => ?_) (fun f cdv A outer s H vs Q E hr h => ?_)
  · obtain ⟨_, _, _, _, rfl, _⟩ := h; rfl
  · obtain ⟨lo, ts, m, c, rfl, hlo, D, m8, q⟩ := h
    refine ⟨_, pss_cons (ps_set (i := 2) scNumbered.nd rfl (Or.inl rfl) (pe_lst pa_nil))
      (pss_cons (ps_set (i := 3) scNumbered.nd rfl (Or.inl rfl) (pv 1))
      (pss_cons (ps_for PassesOwn.never rfl (pi_range1 rfl T.range (pa_cons (pe_op op_fdiv (pe_callB (call_lenK K) (by rfl) T.len PySem.boot_len (pa_cons (pv 0) pa_nil)) pe_int) pa_nil)) (pg_name (i := 4) scNumbered.nd rfl (Or.inl rfl))
        (pss_cons (ps_expr (pe_bm PySem.F.plainAttrs_list PySem.F.slot_list_insert PySem.F.type_list_insert mt_insert (pv 2) (pa_cons (pe_op op_mod (pv 3) (pe_op op_add (pv 4) pe_int)) (pa_cons (pv 4) pa_nil))))
        (pss_one (ps_set (i := 3) scNumbered.nd rfl (Or.inl rfl) (pe_op op_fdivB (pv 3) (pe_op op_add (pv 4) pe_int))))))
      (pss_cons (ps_set (i := 5) scNumbered.nd rfl (Or.inl rfl) (pe_op op_rep (pe_lst (pa_cons pe_int pa_nil)) (pe_callB (call_lenK K) (by rfl) T.len PySem.boot_len (pa_cons (pv 0) pa_nil))))
      (pss_cons (ps_for PassesOwn.never rfl (pi_enumK K .l rfl henum (pa_cons (pv 0) pa_nil)) (pg_tupK K 2 rfl (pgs_cons (pg_name (i := 6) scNumbered.nd rfl (Or.inl rfl)) (pgs_cons (pg_name (i := 7) scNumbered.nd rfl (Or.inl rfl)) pgs_nil)))
        (pss_cons (ps_set (i := 8) scNumbered.nd rfl (Or.inl rfl) (pe_op op_add (pe_op op_mul pe_int (pe_ix (ix_listK K) (pv 2) (pe_op op_fdiv (pv 6) pe_int) (fun _ _ => rfl))) (pe_op op_mod (pe_op op_xor (pv 6) (pe_op op_and (pe_op op_shr (pv 3) (pe_op op_fdiv (pv 6) pe_int)) pe_int)) pe_int)))
        (pss_one (ps_asg (pe_op op_add (pe_op op_mul pe_int (pe_ix (ix_listK K) (pv 2) (pe_op op_fdiv (pv 7) pe_int) (fun _ _ => rfl))) (pe_op op_mod (pe_op op_xor (pv 7) (pe_op op_and (pe_op op_shr (pv 3) (pe_op op_fdiv (pv 7) pe_int)) pe_int)) pe_int)) (pg_sub (pv 5) (pv 8) set_list)))))
      (pss_one (ps_ret (pv 5))))))), ?_⟩
    have tl := D.len
    have PT := D.perm
    refine seq_abs fun M hM => ?_
    refine ⟨Nat.zero_le _, fun g hg => hM _ _ ?_⟩
    clear hM M
    have s0 := Same.new (o := HO.lst []) hg
    have g0 : (upd H g (.lst [])) g = some (.lst ((ci []).map V.int)) := upd_same
    generalize upd H g (.lst []) = H1 at s0 g0 ⊢
    dsimp only [List.set]
    refine seq_abs fun M hM => ?_
    refine ⟨_, rfl, hM _ _ ?_⟩
    clear hM M
    refine seq_abs fun M hM => ?_
    refine ⟨_, rfl, lo, _, rfl, .inl (SqL.of (s0 _ _ hlo)), _, _, rfl, rfl, ⟨by decide, by decide⟩, _, rfl, ?_⟩
    rw [List.length_map, ci_len, tl, show ((2 * m : Nat) : Int) / 2 = (m : Int) by lia]
    refine ⟨by lia, by lia, ?_⟩
    rw [Int.toNat_natCast]
    refine for_range (lo := 0) (n := m) (fun j σ H' => (∃ (z : Int) (u : Option V), σ = [some (.ref lo), some (.int c), some (.ref g), some (.int z), u, none, none, none, none]) /\ Same H H' /\ ∃ ord : List Nat, H' g = some (.lst ((ci ord).map V.int)) /\ ord.Perm (List.range j)) ⟨⟨c, _, rfl⟩, s0, [], g0, List.Perm.refl _⟩ ?_ ?_
    · rintro j σ H2 hj ⟨⟨z, u, rfl⟩, sm, ord, ho, pm⟩
      have ol : ord.length = j := by rw [pm.length_eq, List.length_range]
      rw [show (0 : Int) + (j : Int) = (j : Int) by lia]
      dsimp only [gName, List.set]
      refine ⟨_, rfl, .inl ⟨rfl, _, SqL.of ho⟩, _, rfl, _, rfl, _, _, rfl, rfl, _, _, rfl, rfl, (by show (0 : Int) < (j : Int) + 1; lia), _, rfl, ?_⟩
      have hz := mod_in z ((j : Int) + 1) (by lia)
      obtain ⟨i, hi⟩ := Int.eq_ofNat_of_zero_le hz.1
      have il : i <= j := by lia
      refine ⟨g, (ci ord).map V.int, i, .int j, rfl, ?_, ho, by rw [List.length_map, ci_len]; lia, by rw [List.length_map, ci_len]; lia, ?_⟩
      · show [V.int (z % ((j : Int) + 1)), V.int (j : Int)] = [V.int (i : Int), V.int (j : Int)]
        rw [hi]
      refine ⟨_, rfl, _, rfl, _, _, rfl, rfl, _, _, rfl, rfl, ⟨by lia, ?_⟩, ⟨_, _, rfl⟩, Same.put84 sm hg, ord.take i ++ j :: ord.drop i, ?_, ?_⟩
      · have : ((j : Int) + 1).natAbs < 2 ^ 9000 := Nat.lt_of_le_of_lt (show ((j : Int) + 1).natAbs <= 2 ^ 10 by lia) (Nat.pow_lt_pow_right (by decide) (by decide))
        exact (Nat.log2_lt (by lia)).mpr this
      · rw [upd_same]
        unfold ci
        rw [List.map_append, List.map_append, List.map_cons, List.map_cons, List.map_take, List.map_drop, List.map_take, List.map_drop]
      · rw [List.range_succ]
        refine List.perm_middle.trans ?_
        rw [List.take_append_drop]
        exact (pm.cons _).trans (List.perm_append_singleton _ _).symm
    rintro σ H2 ⟨⟨R, u, rfl⟩, s2, ord, ho, pm⟩
    refine hM _ _ ?_
    clear hM M
    have ol : ord.length = m := by rw [pm.length_eq, List.length_range]
    have gH := hg
    have num : ∀ (H' : Hp), H' g = some (.lst ((ci ord).map V.int)) -> ∀ x : Nat, x < 2 * m -> atI ((ci ord).map V.int) ((x : Int) / 2) = some (.int (ord.getD (x / 2) 0 : Nat)) /\ Builtin.bitXor ((x : Nat) : Int) (Builtin.bitAnd (R / 2 ^ ((x : Int) / 2).toNat) 1) % 2 = ((alo (bb R (x / 2)) x % 2 : Nat) : Int) := fun H' _ x hx => by
      have e : (x : Int) / 2 = ((x / 2 : Nat) : Int) := by lia
      rw [e]
      obtain ⟨b1, b2⟩ := bb_is R (x / 2)
      refine ⟨ci_at (by lia), ?_⟩
      rw [b1, xor_al (by lia) b2]
      lia
    refine seq_abs fun M hM => ?_
    refine ⟨by show 1 <= sizeLine; decide, fun p1 hp1 => ?_⟩
    have s3 := s2.trans (Same.new (o := HO.lst [.int 0]) hp1)
    have ho3 := Same.new (o := HO.lst [.int 0]) hp1 _ _ ho
    refine ⟨_, rfl, lo, _, rfl, .inl (SqL.of (s3 _ _ hlo)), ?_⟩
    rw [List.length_map, ci_len, tl]
    refine ⟨p1, _, _, rfl, rfl, upd_same, by lia, by lia, ?_, fun lm hlm => hM _ _ ?_⟩
    · rw [Int.toNat_natCast]
      show 1 * (2 * m) <= sizeLine
      exact Nat.le_of_lt (line84 (by lia))
    clear hM M
    have er : (List.replicate ((2 * m : Nat) : Int).toNat [V.int 0]).flatten = (ci (List.replicate (2 * m) 0)).map V.int := by
      rw [Int.toNat_natCast]
      unfold ci
      generalize 2 * m = n
      induction n with
      | zero => rfl
      | succ n ih => rw [List.replicate_succ, List.replicate_succ, List.flatten_cons, ih]; rfl
    rw [er]
    have s4 := s3.trans (Same.new (o := HO.lst ((ci (List.replicate (2 * m) 0)).map V.int)) hlm)
    have ho4 := Same.new (o := HO.lst ((ci (List.replicate (2 * m) 0)).map V.int)) hlm _ _ ho3
    have hm4 : (upd (upd H2 p1 (.lst [.int 0])) lm (.lst ((ci (List.replicate (2 * m) 0)).map V.int))) lm = some (.lst ((ci (List.replicate (2 * m) 0)).map V.int)) := upd_same
    have lmH := none_of s3 hlm
    have glm : g ≠ lm := ne_of_none ho3 hlm
    generalize upd (upd H2 p1 (.lst [.int 0])) lm (.lst ((ci (List.replicate (2 * m) 0)).map V.int)) = H4 at s4 ho4 hm4 ⊢
    dsimp only [List.set]
    refine seq_abs fun M hM => ?_
    refine ⟨_, rfl, lo, _, rfl, SqL.of (s4 _ _ hlo), for_enum (k := .l) (K := K) (a := lo) (xs := (ci ts).map V.int) (fun i σ H' => (∃ u v z, σ = [some (.ref lo), some (.int c), some (.ref g), some (.int R), u, some (.ref lm), v, z.1, z.2]) /\ Same H H' /\ H' g = some (.lst ((ci ord).map V.int)) /\ ∃ us : List Nat, H' lm = some (.lst ((ci us).map V.int)) /\ us.length = 2 * m /\ ∀ e, e < i -> fn us (tau ord R e) = tau ord R (fn ts e)) ⟨⟨_, _, (_, _), rfl⟩, s4, ho4, _, hm4, by rw [List.length_replicate], fun e he => absurd he (Nat.not_lt_zero e)⟩ (fun i σ H' _ z => SqL.of (z.2.1 _ _ hlo)) ?_ ?_⟩
    · rintro i x p σ H5 hxi ⟨⟨u, v, ⟨z1, z2⟩, rfl⟩, s5, ho5, us, hm5, ul, inv⟩ hp
      obtain ⟨af, ea, rfl⟩ := nat_item hxi
      have il : i < 2 * m := by have := (List.getElem?_eq_some_iff.mp ea).1; lia
      have eaf : fn ts i = af := by unfold fn; rw [List.getD_eq_getElem?_getD, ea]; rfl
      have afl : af < 2 * m := by rw [<- eaf]; exact PT.lt i il
      have s6 := Same.new (o := HO.tup [.int (i : Int), .int (af : Int)]) hp
      refine ⟨p, _, rfl, SqT.of upd_same, rfl, _, _, rfl, _, _, rfl, rfl, ?_⟩
      have ho6 := s6 _ _ ho5
      have hm6 := s6 _ _ hm5
      have s56 := s5.trans s6
      generalize upd H5 p (.tup [.int (i : Int), .int (af : Int)]) = H6 at ho6 hm6 s56 ⊢
      dsimp only [List.set]
      obtain ⟨a1, a2⟩ := num H6 ho6 i il
      obtain ⟨b1, b2⟩ := num H6 ho6 af afl
      have e1 : 2 * ((ord.getD (i / 2) 0 : Nat) : Int) + ((alo (bb R (i / 2)) i % 2 : Nat) : Int) = ((tau ord R i : Nat) : Int) := by unfold tau; lia
      have e2 : 2 * ((ord.getD (af / 2) 0 : Nat) : Int) + ((alo (bb R (af / 2)) af % 2 : Nat) : Int) = ((tau ord R af : Nat) : Int) := by unfold tau; lia
      refine seq_abs fun M hM => ?_
      refine ⟨_, rfl, _, rfl, _, _, rfl, rfl, ⟨by decide, by decide⟩, g, _, _, _, rfl, rfl, SqL.of ho6, a1, _, _, rfl, rfl, .inl ⟨by decide, by decide⟩, _, rfl, _, rfl, _, rfl, _, _, rfl, rfl, ⟨by decide, by decide⟩, _, _, rfl, rfl, (by show (0 : Int) <= (i : Int) / 2; lia), _, _, rfl, rfl, _, _, rfl, rfl, _, _, rfl, rfl, (by show (0 : Int) < 2; decide), _, _, rfl, rfl, hM _ _ ?_⟩
      clear hM M
      dsimp only [List.set]
      rw [a2, e1]
      have tlt := tau_lt (R := R) pm il
      refine ⟨_, rfl, _, rfl, _, _, rfl, rfl, ⟨by decide, by decide⟩, g, _, _, _, rfl, rfl, SqL.of ho6, b1, _, _, rfl, rfl, .inl ⟨by decide, by decide⟩, _, rfl, _, rfl, _, rfl, _, _, rfl, rfl, ⟨by decide, by decide⟩, _, _, rfl, rfl, (by show (0 : Int) <= (af : Int) / 2; lia), _, _, rfl, rfl, _, _, rfl, rfl, _, _, rfl, rfl, (by show (0 : Int) < 2; decide), _, _, rfl, rfl, _, rfl, _, rfl, lm, _, _, tau ord R i, rfl, rfl, hm6, ix_ok (by rw [List.length_map, ci_len]; lia), ?_⟩
      rw [b2]
      dsimp only
      rw [e2]
      refine ⟨⟨_, _, (_, _), rfl⟩, Same.put84 s56 lmH, by rw [upd_ne glm]; exact ho6, us.set (tau ord R i) (tau ord R af), ?_, by rw [List.length_set]; exact ul, fun e he => ?_⟩
      · rw [upd_same]
        unfold ci
        rw [List.map_set, List.map_set]
      · unfold fn
        rw [List.getD_eq_getElem?_getD]
        by_cases ce : e = i
        · rw [ce, List.getElem?_set_self (by lia)]
          show tau ord R af = tau ord R (fn ts i)
          rw [eaf]
        · have ne : tau ord R i ≠ tau ord R e := fun z => ce ((tau_perm (R := R) pm).inj _ _ (by lia) il z.symm)
          rw [List.getElem?_set_ne ne, <- List.getD_eq_getElem?_getD]
          exact inv e (by lia)
    rintro σ H5 ⟨⟨u, v, ⟨z1, z2⟩, rfl⟩, s5, ho5, us, hm5, ul, inv⟩
    refine hM _ _ ?_
    rw [List.length_map, ci_len, tl] at inv
    exact ⟨_, rfl, q lm us H5 s5 hm5 (renum D ul (tau_perm pm) (fun x _ => tau_mate x) inv)⟩
end
theorem same_tie {K : W.Frag} {H : Hp} {a b : Addr} {x y : Int} (h1 : H a = some (.tup [.int x, .int y])) (h2 : H b = some (.tup [.int x, .int y])) : SameD K H 1 (.ref a) (.ref b) := by
  refine .tup (SqT.of h1) (SqT.of h2) rfl fun i u v e1 e2 => ?_
  rw [e1] at e2
  cases e2
  match i with
  | 0 => simp at e1; rw [<- e1]; exact .flat rfl
  | 1 => simp at e1; rw [<- e1]; exact .flat rfl
  | j + 2 => simp at e1
theorem same_web {K : W.Frag} {H : Hp} {v u : V} {n : Int} {ps : List (Int × Int)} (h1 : WebAt H v n ps) (h2 : WebAt H u n ps) {Q : VK} {out : Bool} (q : Q (.bl out) H) : rSame K out v u H Q := by
  obtain ⟨c, d, xs, rfl, c1, d1, t1⟩ := h1.ex
  obtain ⟨c', d', xs', rfl, c2, d2, t2⟩ := h2.ex
  have l1 := Paired.length t1
  have l2 := Paired.length t2
  refine ⟨c, c', _, _, 2, rfl, rfl, .inl ⟨SqT.of c1, SqT.of c2⟩, rfl, by decide, fun i x y e1 e2 => ?_, q⟩
  match i with
  | 0 => simp at e1 e2; rw [<- e1, <- e2]; exact .flat rfl
  | 1 =>
    simp at e1 e2
    rw [<- e1, <- e2]
    refine .tup (SqT.of d1) (SqT.of d2) (by lia) fun j x y f1 f2 => ?_
    obtain ⟨p1, g1, a1, rfl, b1⟩ := Paired.at t1 f1
    obtain ⟨p2, g2, a2, rfl, b2⟩ := Paired.at t2 f2
    rw [g1] at g2
    cases g2
    exact same_tie b1 b2
  | j + 2 => simp at e1
theorem same_rows {K : W.Frag} {H H0 H1 : Hp} {a b : Addr} {xs ys : List V} {rows : List (List Nat)} (ha : H a = some (.lst xs)) (hb : H b = some (.lst ys)) (p1 : Paired (RowP H0 H) xs rows) (p2 : Paired (RowP H1 H) ys rows) {Q : VK} {out : Bool} (q : Q (.bl out) H) : rSame K out (.ref a) (.ref b) H Q := by
  have l1 := Paired.length p1
  have l2 := Paired.length p2
  refine ⟨a, b, xs, ys, 1, rfl, rfl, .inr ⟨SqL.of ha, SqL.of hb⟩, by lia, by decide, fun j x y f1 f2 => ?_, q⟩
  obtain ⟨r1, g1, a1, rfl, _, b1⟩ := Paired.at p1 f1
  obtain ⟨r2, g2, a2, rfl, _, b2⟩ := Paired.at p2 f2
  rw [g1] at g2
  cases g2
  refine .lst (SqL.of b1) (SqL.of b2) rfl fun i x y e1 e2 => ?_
  rw [e1] at e2
  cases e2
  obtain ⟨k, _, rfl⟩ := nat_item e1
  exact .flat rfl
theorem ties_upd {H : Hp} {l : Addr} {ys zs : List V} {xs : List V} {ps : List (Int × Int)} (h : Paired (TieAt H) xs ps) (hl : H l = some (.lst ys)) : Paired (TieAt (upd H l (.lst zs))) xs ps := L2.Paired.mapP h fun _ _ q => by
  obtain ⟨a, h1, h2⟩ := q
  refine ⟨a, h1, ?_⟩
  rw [upd_ne (fun z => by rw [z, hl] at h2; cases h2)]
  exact h2
theorem step2 : ∀ m ∈ List.range 9, (Builtin.Range.rangeSize 0 ((2 * m : Nat) : Int) 2).toNat = m /\ Builtin.Range.small 0 ((2 * m : Nat) : Int) 2 = true := by decide +kernel
def spLWeb : Sp := fun vs H Q _ => ∃ (lt : Addr) (ts : List Nat) (m : Nat), vs = [.ref lt] /\ H lt = some (.lst ((ci ts).map V.int)) /\ PermOn (fn ts) (2 * m) /\ ts.length = 2 * m /\ m <= 8 /\ ∀ wv H', Same H H' -> WebAt H' wv ((rds (fn ts) (2 * m)).length : Int) (tiesOf (rds (fn ts) (2 * m)) m) -> Q wv H'
def spLWhole (K : W.Frag) : Sp := fun vs H Q _ => ∃ (kd : Kd) (a : Addr) (ns : List Int), vs = [.ref a] /\ SqK kd K H a (ns.map V.int) /\ ns.length <= 300 /\ ∀ H', Same H H' -> Q (.bl true) H'
def spAreR (K : W.Frag) : Sp := fun vs H Q _ => ∃ (H0 H1 : Hp) (l l2 : Addr) (xs ys : List V) (rows : List (List Nat)), vs = [.ref l, .ref l2] /\ Same H0 H /\ H0 l = none /\ H l = some (.lst xs) /\ H l2 = some (.lst ys) /\ Paired (RowP H0 H) xs rows /\ Paired (RowP H1 H) ys rows /\ rows.length <= 20 /\ (∀ r ∈ rows, r.length <= 20) /\ ∀ H', Same H0 H' -> Q (.bl true) H'
def spIsWeb : Sp := fun vs H Q _ => ∃ (v u : V) (n : Int) (ps : List (Int × Int)), vs = [v, u] /\ WebAt H v n ps /\ WebAt H u n ps /\ ps.length <= 8 /\ ∀ H', Same H H' -> Q (.bl true) H'
section
variable {P : Program} {w : World} {K : W.Frag} {mg : Str -> Option Value} {base : Heap}
theorem scLWeb : FnScope ["_law_turns", "_law_points", "_law_found", "_law_point", "_law_row", "_law_end", "_law_ties"] ["_law_turns"] (defScope sLWeb) := ⟨rfl, rfl, rfl, by decide +kernel, rfl, by decide +kernel, by decide +kernel⟩
theorem d_lweb (T : Txt K mg) (henum : mg "enumerate" = none) (S : Src K mg "_law_web" sLWeb ["_law_turns"]) (DR : Def P w K mg base 2 "_law_rounds" ["_law_turns", "_law_along"] spLRounds) : Def P w K mg base 3 "_law_web" ["_law_turns"] spLWeb := by
  refine S.def scLWeb (fun vs H Q E h => ?_) (fun f cdv A outer s H vs Q E hr h => ?_)
  · obtain ⟨_, _, _, rfl, _⟩ := h; rfl
  · obtain ⟨lt, ts, m, rfl, hlt, PT, tl, m8, q⟩ := h
    refine ⟨_, pss_cons (ps_set (i := 1) scLWeb.nd rfl (Or.inl rfl) pe_dnewK)
      (pss_cons (ps_set (i := 2) scLWeb.nd rfl (Or.inl rfl) (pe_def DR hr rfl (pa_cons (pv 0) (pa_cons pe_int pa_nil))))
      (pss_cons (ps_for PassesOwn.never rfl (pi_enumK K .l rfl henum (pa_cons (pv 2) pa_nil)) (pg_tupK K 2 rfl (pgs_cons (pg_name (i := 3) scLWeb.nd rfl (Or.inl rfl)) (pgs_cons (pg_name (i := 4) scLWeb.nd rfl (Or.inl rfl)) pgs_nil)))
        (pss_one (ps_for PassesOwn.never rfl (pi_seqK K .l (pv 4)) (pg_name (i := 5) scLWeb.nd rfl (Or.inl rfl)) (pss_one (ps_dput (hu_of hr) (pv 1) (pv 5) (pv 3) rfl)))))
      (pss_cons (ps_set (i := 6) scLWeb.nd rfl (Or.inl rfl) (pe_lst pa_nil))
      (pss_cons (ps_for PassesOwn.never rfl (pi_range3 rfl T.range (pa_cons pe_int (pa_cons (pe_callB (call_lenK K) (by rfl) T.len PySem.boot_len (pa_cons (pv 0) pa_nil)) (pa_cons pe_int pa_nil)))) (pg_name (i := 5) scLWeb.nd rfl (Or.inl rfl))
        (pss_one (ps_expr (pe_bm PySem.F.plainAttrs_list PySem.F.slot_list_append PySem.F.type_list_append mt_append (pv 6) (pa_cons (pe_tup (pa_cons (pe_callB (call_min2 rfl) (by rfl) T.min boot_min' (pa_cons (pe_dget (hu_of hr) (pv 1) (pv 5) (fun _ _ => rfl)) (pa_cons (pe_dget (hu_of hr) (pv 1) (pe_op op_add (pv 5) pe_int) (fun _ _ => rfl)) pa_nil)))
          (pa_cons (pe_callB (call_max2 rfl) (by rfl) T.max boot_max' (pa_cons (pe_dget (hu_of hr) (pv 1) (pv 5) (fun _ _ => rfl)) (pa_cons (pe_dget (hu_of hr) (pv 1) (pe_op op_add (pv 5) pe_int) (fun _ _ => rfl)) pa_nil))) pa_nil))) pa_nil)))))
      (pss_one (ps_ret (pe_tup (pa_cons (pe_callB (call_lenK K) (by rfl) T.len PySem.boot_len (pa_cons (pv 2) pa_nil)) (pa_cons (pe_callTy (call_tuple_ofK K) rfl T.tuple boot_tuple' (pa_cons (pv 6) pa_nil)) pa_nil))))))))), ?_⟩
    refine seq_abs fun M hM => ?_
    refine fun pd hpd => hM _ _ ?_
    clear hM M
    have s1 := Same.new (o := HO.dK []) hpd
    have p0 : Pts (upd H pd (.dK [])) pd (rds (fn ts) (2 * m)) (Met (rds (fn ts) (2 * m)) 0) 0 := ⟨[], upd_same, fun x hx => by obtain ⟨j, _, h, _⟩ := hx; exact absurd h (Nat.not_lt_zero j), Nat.le_refl _⟩
    have pd1 : (upd H pd (.dK [])) pd = some (.dK []) := upd_same
    generalize upd H pd (.dK []) = H1 at s1 p0 pd1 ⊢
    dsimp only [List.set]
    refine seq_abs fun M hM => ?_
    refine ⟨_, rfl, lt, ts, 0, m, rfl, s1 _ _ hlt, PT, tl, m8, .inl rfl, fun l xs H2 s2 hl0 hl hx => hM _ _ ?_⟩
    clear hM M
    have eg : gal 0 ts = fn ts := rfl
    rw [eg] at hx
    have p2 := p0.same s2
    have xl := Paired.length hx
    have rl := rds_le (fn ts) (2 * m)
    have s12 := s1.trans s2
    have lH := none_of s1 hl0
    have lpd : l ≠ pd := fun z => by rw [z, pd1] at hl0; cases hl0
    refine seq_abs fun M hM => ?_
    refine ⟨_, rfl, l, xs, rfl, SqL.of hl, for_enum (k := .l) (K := K) (a := l) (xs := xs) (fun i σ H' => (∃ u v z, σ = [some (.ref lt), some (.ref pd), some (.ref l), u, v, z, none]) /\ Same H H' /\ H' l = some (.lst xs) /\ Paired (RowP H1 H') xs (rds (fn ts) (2 * m)) /\ Pts H' pd (rds (fn ts) (2 * m)) (Met (rds (fn ts) (2 * m)) i) (16 * i)) ⟨⟨_, _, _, rfl⟩, s12, hl, hx, p2⟩ (fun i σ H' _ z => SqL.of z.2.2.1) ?_ ?_⟩
    · rintro i x p σ H3 hxi ⟨⟨u, v, z, rfl⟩, s3, hl3, hx3, p3⟩ hp
      obtain ⟨r, er, a, rfl, ha0, ha⟩ := Paired.at hx3 hxi
      have il := (List.getElem?_eq_some_iff.mp hxi).1
      have apd : a ≠ pd := fun z => by rw [z, pd1] at ha0; cases ha0
      have s4 := Same.new (o := HO.tup [.int (i : Int), .ref a]) hp
      refine ⟨p, _, rfl, SqT.of upd_same, rfl, _, _, rfl, _, _, rfl, rfl, ?_⟩
      have s14 := s3.trans s4
      have p4 := p3.same s4
      have hl4 := s4 _ _ hl3
      have hx4 := rows_same hx3 s4
      have ha4 := s4 _ _ ha
      generalize upd H3 p (.tup [.int (i : Int), .ref a]) = H4 at s14 p4 hl4 hx4 ha4 ⊢
      dsimp only [List.set]
      have rlen := rds_row PT (List.mem_of_getElem? er)
      refine ⟨_, rfl, a, rfl, ⟨_, SqL.of ha4⟩, for_seq (k := .l) (K := K) (a := a) (xs := (ci r).map V.int) (fun j σ H' => (∃ z, σ = [some (.ref lt), some (.ref pd), some (.ref l), some (.int (i : Int)), some (.ref a), z, none]) /\ Same H H' /\ H' l = some (.lst xs) /\ Paired (RowP H1 H') xs (rds (fn ts) (2 * m)) /\ H' a = some (.lst ((ci r).map V.int)) /\ Pts H' pd (rds (fn ts) (2 * m)) (fun x => Met (rds (fn ts) (2 * m)) i x \/ x ∈ r.take j) (16 * i + j)) ⟨⟨_, rfl⟩, s14, hl4, hx4, ha4, p4.mono (fun x hx => hx.resolve_right (fun z => nomatch z)) (Nat.le_refl _)⟩ (fun j σ H' _ z => SqL.of z.2.2.2.2.1) ?_ ?_⟩
      · rintro j x σ H5 hxj ⟨⟨z, rfl⟩, s5, hl5, hx5, ha5, p5⟩
        obtain ⟨e, ee, rfl⟩ := nat_item hxj
        have jl := (List.getElem?_eq_some_iff.mp ee).1
        dsimp only [gName, List.set]
        obtain ⟨H6, dp, ⟨o, eH⟩, p6⟩ := p5.put (x := e) (i := i) (rowOf_at PT er (List.mem_of_getElem? ee)) (by lia)
        refine ⟨_, rfl, _, rfl, _, rfl, pd, H6, rfl, dp, ⟨_, rfl⟩, by rw [eH]; exact Same.put84 s5 hpd, by rw [eH, upd_ne lpd]; exact hl5, by rw [eH]; exact rows_upd hx5 pd1, by rw [eH, upd_ne apd]; exact ha5, p6.mono (fun x hx => ?_) (Nat.le_refl _)⟩
        rcases hx with hx | hx
        · exact .inl (.inl hx)
        · rw [take_succ_of ee] at hx
          rcases List.mem_append.mp hx with hx | hx
          · exact .inl (.inr hx)
          · exact .inr (List.mem_singleton.mp hx)
      · rintro σ H5 ⟨⟨z, rfl⟩, s5, hl5, hx5, ha5, p5⟩
        refine ⟨⟨_, _, _, rfl⟩, s5, hl5, hx5, p5.mono (fun x hx => ?_) (by rw [List.length_map, ci_len]; lia)⟩
        obtain ⟨j, r', hj, e1, e2⟩ := hx
        by_cases c : j = i
        · rw [c, er] at e1
          cases e1
          refine .inr ?_
          rw [List.length_map, ci_len, List.take_length]
          exact e2
        · exact .inl ⟨j, r', by lia, e1, e2⟩
    rintro σ H3 ⟨⟨u, v, z, rfl⟩, s3, hl3, hx3, p3⟩
    refine hM _ _ ?_
    clear hM M
    have p3' : Pts H3 pd (rds (fn ts) (2 * m)) (fun x => x < 2 * m) 300 := p3.mono (fun x hx => by
      obtain ⟨i, r, h1, h2⟩ := row_ex PT hx
      exact ⟨i, r, by have := (List.getElem?_eq_some_iff.mp h1).1; lia, h1, h2⟩) (by lia)
    refine seq_abs fun M hM => ?_
    refine ⟨Nat.zero_le _, fun g hg => hM _ _ ?_⟩
    clear hM M
    have sg := Same.new (o := HO.lst []) hg
    have hg4 : (upd H3 g (.lst [])) g = some (.lst []) := upd_same
    have p4 := p3'.same sg
    have hl4 := sg _ _ hl3
    have s4 := s3.trans sg
    generalize upd H3 g (.lst []) = H4 at hg4 p4 hl4 s4 ⊢
    dsimp only [List.set]
    obtain ⟨e1, e2⟩ := step2 m (List.mem_range.mpr (by lia))
    have gl : g ≠ l := fun z => by rw [z, hl3] at hg; cases hg
    have gpd : g ≠ pd := fun z => by
      obtain ⟨kvs, hk, _⟩ := p3'.ex
      rw [z, hk] at hg
      cases hg
    refine seq_abs fun M hM => ?_
    refine ⟨_, rfl, lt, _, rfl, .inl (SqL.of (s4 _ _ hlt)), ?_⟩
    rw [List.length_map, ci_len, tl]
    refine ⟨0, _, 2, rfl, by decide, by decide, e2, ?_⟩
    rw [e1]
    refine for_rangeC (lo := 0) (c := 2) (n := m) (fun i σ H' => (∃ u v z, σ = [some (.ref lt), some (.ref pd), some (.ref l), u, v, z, some (.ref g)]) /\ Same H H' /\ H' l = some (.lst xs) /\ Pts H' pd (rds (fn ts) (2 * m)) (fun x => x < 2 * m) 300 /\ ∃ ys, H' g = some (.lst ys) /\ Paired (TieAt H') ys ((tiesOf (rds (fn ts) (2 * m)) m).take i)) ⟨⟨_, _, _, rfl⟩, s4, hl4, p4, [], hg4, .nil⟩ ?_ ?_
    · rintro i σ H5 hi ⟨⟨u, v, z, rfl⟩, s5, hl5, p5, ys, hg5, hy⟩
      rw [show (0 : Int) + (i : Int) * 2 = ((2 * i : Nat) : Int) by lia]
      dsimp only [gName, List.set]
      have g1 := p5.get (x := 2 * i) (by lia)
      have g2 := p5.get (x := 2 * i + 1) (by lia)
      rw [show ((2 * i + 1 : Nat) : Int) = ((2 * i : Nat) : Int) + 1 by lia] at g2
      have yl := Paired.length hy
      rw [List.length_take, tiesOf_len] at yl
      obtain ⟨n1, n2⟩ := norm_min ((rowOf (rds (fn ts) (2 * m)) (2 * i) : Int), (rowOf (rds (fn ts) (2 * m)) (2 * i + 1) : Int))
      dsimp only at n1 n2
      refine ⟨_, rfl, .inl ⟨rfl, _, SqL.of hg5⟩, _, rfl, _, rfl, pd, _, rfl, g1, _, rfl, _, rfl, _, _, rfl, rfl, pd, _, rfl, g2, _, _, rfl, ?_⟩
      rw [n1]
      refine ⟨_, rfl, _, rfl, pd, _, rfl, g1, _, rfl, _, rfl, _, _, rfl, rfl, pd, _, rfl, g2, _, _, rfl, ?_⟩
      rw [n2]
      refine ⟨by show 2 <= sizeLine; decide, fun t ht => ?_⟩
      have st := Same.new (o := HO.tup [.int (norm ((rowOf (rds (fn ts) (2 * m)) (2 * i) : Int), (rowOf (rds (fn ts) (2 * m)) (2 * i + 1) : Int))).1, .int (norm ((rowOf (rds (fn ts) (2 * m)) (2 * i) : Int), (rowOf (rds (fn ts) (2 * m)) (2 * i + 1) : Int))).2]) ht
      have hgt := st _ _ hg5
      refine ⟨g, _, _, rfl, rfl, hgt, line84 (by lia), ⟨_, _, _, rfl⟩, fun b o e => ?_, ?_, ?_, _, upd_same, ?_⟩
      · have ne : b ≠ g := fun z => by rw [z] at e; have := s3 _ _ e; rw [hg] at this; cases this
        rw [upd_ne ne]
        exact st _ _ (s5 _ _ e)
      · rw [upd_ne (Ne.symm gl)]; exact st _ _ hl5
      · have pt := p5.same st
        obtain ⟨kvs, hk, r⟩ := pt.ex
        exact ⟨kvs, by rw [upd_ne (Ne.symm gpd)]; exact hk, r⟩
      · have e : (tiesOf (rds (fn ts) (2 * m)) m)[i]? = some (norm ((rowOf (rds (fn ts) (2 * m)) (2 * i) : Int), (rowOf (rds (fn ts) (2 * m)) (2 * i + 1) : Int))) := by unfold tiesOf; simp [hi]
        rw [take_succ_of e]
        exact ties_upd (L2.Paired.snoc (ties_same hy st) ⟨t, rfl, upd_same⟩) hgt
    rintro σ H5 ⟨⟨u, v, z, rfl⟩, s5, hl5, p5, ys, hg5, hy⟩
    refine hM _ _ ?_
    rw [List.take_of_length_le (by rw [tiesOf_len]; exact Nat.le_refl _)] at hy
    refine ⟨_, rfl, l, xs, rfl, .inl (SqL.of hl5), _, rfl, g, _, rfl, .inl ⟨SqL.of hg5, fun t ht => ⟨by show 2 <= sizeLine; decide, fun c hc => ?_⟩⟩⟩
    have s6 := Same.new (o := HO.tup ys) ht
    have s7 := Same.new (o := HO.tup [.int (xs.length : Int), .ref t]) hc
    refine q (.ref c) _ (s5.trans (s6.trans s7)) ⟨c, t, ys, rfl, ?_, s7 _ _ upd_same, ties_same hy (s6.trans s7)⟩
    rw [upd_same, xl]
theorem scLWhole : FnScope ["_law_numbers"] ["_law_numbers"] (defScope sLWhole) := ⟨rfl, rfl, rfl, by decide +kernel, rfl, by decide +kernel, by decide +kernel⟩
theorem ndOne84 : (["_law_one"] : List Str).Nodup := by decide +kernel
theorem d_lwhole (T : Txt K mg) (S : Src K mg "_law_whole" sLWhole ["_law_numbers"]) : Def P w K mg base 1 "_law_whole" ["_law_numbers"] (spLWhole K) := by
  refine S.def scLWhole (fun vs H Q E h => ?_) (fun f cdv A outer s H vs Q E hr h => ?_)
  · obtain ⟨_, _, _, rfl, _⟩ := h; rfl
  · obtain ⟨kd, a, ns, rfl, ha, nl, q⟩ := h
    refine ⟨_, pss_one (ps_ret (pe_cmpR (op_eqNilK K (units66 hr)) (pe_comp (N' := ["_law_one"]) (fr := [none]) (compOk_of (by rfl)) rfl (pi_seqK K kd (pv 0)) (fun _ _ _ _ => pg_name (i := 0) ndOne84 rfl (Or.inl rfl) (Or.inr rfl))
      (fun _ _ _ _ => pifs_one (PW.pt (pw_or (pt_not (pt_val (pe_callB (r := rIsiK K) (call_isiK K) (by rfl) T.isi boot_isi (pa_cons (pv 0) (pa_cons (pe_bltn (v := .ty "int") rfl T.int boot_int' rfl) pa_nil))))) (pw_or1 (pt_val (pe_callB (r := rIsiK K) (call_isiK K) (by rfl) T.isi boot_isi (pa_cons (pv 0) (pa_cons (pe_bltn (v := .ty "bool") rfl T.bool boot_bool' rfl) pa_nil)))))))) (fun _ _ _ _ => pv 0)) (pe_lst pa_nil) (nomark _))), ?_⟩
    refine ⟨_, rfl, a, rfl, ⟨_, ha⟩, comp_seq (k := kd) (a := a) (xs := ns.map V.int) (fun σ => ∃ u, σ = [u]) (fun j ys H2 => H2 = H /\ ys = []) ⟨_, rfl⟩ ⟨rfl, rfl⟩ (by rw [List.length_map]; exact line84 nl) (fun j ys H2 _ z => by rw [z.1]; exact ha) ?_ ?_⟩
    · rintro j x ys σ H2 N hx ⟨u, rfl⟩ ⟨rfl, rfl⟩ hN
      obtain ⟨k, rfl⟩ : ∃ k, x = V.int k := by
        rw [List.getElem?_map] at hx
        cases e : ns[j]? with
        | none => rw [e] at hx; cases hx
        | some k => rw [e] at hx; exact ⟨k, (Option.some.inj hx).symm⟩
      dsimp only [gName, List.set]
      exact ⟨_, rfl, _, _, _, _, _, rfl, rfl, .int _, kp_int K, _, rfl, iteF ⟨_, rfl, _, _, _, _, _, rfl, rfl, .int _, kp_intb K, _, rfl, iteF (hN _ _ _ ⟨_, rfl⟩ ⟨rfl, rfl⟩ (by simp))⟩⟩
    · rintro ys H2 ⟨rfl, rfl⟩ p hp
      refine ⟨Nat.zero_le _, fun e he => ⟨p, e, [], rfl, rfl, SqL.of (Same.new he _ _ upd_same), SqL.of upd_same, ?_⟩⟩
      exact q _ ((Same.new hp).trans (Same.new he))
theorem scAreR : FnScope ["_law_found", "_law_due", "_law_row"] ["_law_found", "_law_due"] (defScope sAreR) := ⟨rfl, rfl, rfl, by decide +kernel, rfl, by decide +kernel, by decide +kernel⟩
theorem d_arer (T : Txt K mg) (S : Src K mg "_law_are_rounds" sAreR ["_law_found", "_law_due"]) (DW : Def P w K mg base 1 "_law_whole" ["_law_numbers"] (spLWhole K)) : Def P w K mg base 2 "_law_are_rounds" ["_law_found", "_law_due"] (spAreR K) := by
  refine S.def scAreR (fun vs H Q E h => ?_) (fun f cdv A outer s H vs Q E hr h => ?_)
  · obtain ⟨_, _, _, _, _, _, _, rfl, _⟩ := h; rfl
  · obtain ⟨H0, Hd, l, l2, xs, ys, rows, rfl, s0, l0, hl, hl2, hx, hy, r20, rr20, q⟩ := h
    refine ⟨_, pss_cons (ps_if (PW.pt (pw_or (pt_not (pt_val (pe_callB (call_isiK K) (by rfl) T.isi boot_isi (pa_cons (pv 0) (pa_cons (pe_bltn (v := .ty "list") rfl T.list boot_list' rfl) pa_nil))))) (pw_or1 (pt_cmpR (op_neSK K (units66 hr)) (pv 0) (pv 1) (nomark _))))) (pss_one (ps_ret pe_bl)) pss_nil)
      (pss_cons (ps_for PassesOwn.never rfl (pi_seqK K .l (pv 0)) (pg_name (i := 2) scAreR.nd rfl (Or.inl rfl))
        (pss_one (ps_if (PW.pt (pw_or (pt_not (pt_val (pe_callB (call_isiK K) (by rfl) T.isi boot_isi (pa_cons (pv 2) (pa_cons (pe_bltn (v := .ty "list") rfl T.list boot_list' rfl) pa_nil))))) (pw_or1 (pt_not (pt_val (pe_def DW hr rfl (pa_cons (pv 2) pa_nil))))))) (pss_one (ps_ret pe_bl)) pss_nil)))
      (pss_cons (ps_for PassesOwn.never rfl (pi_seqK K .l (pv 0)) (pg_name (i := 2) scAreR.nd rfl (Or.inl rfl))
        (pss_one (ps_expr (pe_bm0 PySem.F.plainAttrs_list PySem.F.slot_list_clear PySem.F.type_list_clear mt_clear (pv 2)))))
      (pss_cons (ps_expr (pe_bm0 PySem.F.plainAttrs_list PySem.F.slot_list_clear PySem.F.type_list_clear mt_clear (pv 0)))
      (pss_one (ps_ret pe_bl))))), ?_⟩
    have xl := Paired.length hx
    refine seq_abs fun M hM => ?_
    refine ⟨_, rfl, _, _, _, _, _, rfl, rfl, .lst hl, kp_lst K, _, rfl, iteF ?_⟩
    refine ⟨_, rfl, _, rfl, same_rows hl hl2 hx hy ⟨_, rfl, iteF (hM _ _ ?_)⟩⟩
    clear hM M
    refine seq_abs fun M hM => ?_
    refine ⟨_, rfl, l, rfl, ⟨_, SqL.of hl⟩, for_seq (k := .l) (K := K) (a := l) (xs := xs) (fun i σ H' => (∃ u, σ = [some (.ref l), some (.ref l2), u]) /\ Same H H') ⟨⟨_, rfl⟩, Same.refl _⟩ (fun i σ H' _ z => SqL.of (z.2 _ _ hl)) ?_ ?_⟩
    · rintro i x σ H1 hxi ⟨⟨u, rfl⟩, s1⟩
      obtain ⟨r, er, a, rfl, _, ha⟩ := Paired.at hx hxi
      dsimp only [gName, List.set]
      refine ⟨_, rfl, _, _, _, _, _, rfl, rfl, .lst (s1 _ _ ha), kp_lst K, _, rfl, iteF ?_⟩
      exact ⟨_, rfl, .l, a, ci r, rfl, SqL.of (s1 _ _ ha), by rw [ci_len]; have := rr20 r (List.mem_of_getElem? er); lia, fun H2 s2 => ⟨_, rfl, iteF ⟨⟨_, rfl⟩, s1.trans s2⟩⟩⟩
    rintro σ H1 ⟨⟨u, rfl⟩, s1⟩
    refine hM _ _ ?_
    clear hM M
    have hl1 := s1 _ _ hl
    have s01 := s0.trans s1
    have rowsL : ∀ i x, xs[i]? = some x -> ∃ a zs, x = V.ref a /\ H0 a = none /\ a ≠ l /\ H1 a = some (.lst zs) := fun i x hxi => by
      obtain ⟨r, er, a, rfl, ha0, ha⟩ := Paired.at hx hxi
      refine ⟨a, _, rfl, ha0, fun z => ?_, s1 _ _ ha⟩
      rw [z, hl] at ha
      have e : xs = (ci r).map V.int := by injection (Option.some.inj ha)
      have hm := List.mem_of_getElem? hxi
      rw [e] at hm
      obtain ⟨k, _, ek⟩ := List.mem_map.mp hm
      cases ek
    refine seq_abs fun M hM => ?_
    refine ⟨_, rfl, l, rfl, ⟨_, SqL.of hl1⟩, for_seq (k := .l) (K := K) (a := l) (xs := xs) (fun i σ H' => (∃ u, σ = [some (.ref l), some (.ref l2), u]) /\ Same H0 H' /\ H' l = some (.lst xs) /\ ∀ j x, xs[j]? = some x -> ∃ a zs, x = V.ref a /\ H0 a = none /\ a ≠ l /\ H' a = some (.lst zs)) ⟨⟨_, rfl⟩, s01, hl1, rowsL⟩ (fun i σ H' _ z => SqL.of z.2.2.1) ?_ ?_⟩
    · rintro i x σ H2 hxi ⟨⟨u, rfl⟩, s2, hl2', rl⟩
      obtain ⟨a, zs, rfl, a0, al, ha⟩ := rl i x hxi
      dsimp only [gName, List.set]
      refine ⟨_, rfl, .inl ⟨rfl, _, SqL.of ha⟩, a, zs, rfl, rfl, ha, ⟨_, rfl⟩, Same.put84 s2 a0, by rw [upd_ne (Ne.symm al)]; exact hl2', fun j y hyj => ?_⟩
      obtain ⟨b, zs2, rfl, b0, bl, hb⟩ := rl j y hyj
      by_cases c : b = a
      · exact ⟨b, [], rfl, b0, bl, by rw [c]; exact upd_same⟩
      · exact ⟨b, zs2, rfl, b0, bl, by rw [upd_ne c]; exact hb⟩
    rintro σ H2 ⟨⟨u, rfl⟩, s2, hl2', rl⟩
    refine hM _ _ ?_
    exact ⟨_, rfl, .inl ⟨rfl, _, SqL.of hl2'⟩, l, xs, rfl, rfl, hl2', q _ (Same.put84 s2 l0)⟩
theorem scIsWeb84 : FnScope ["_law_found", "_law_due", "_law_tie"] ["_law_found", "_law_due"] (defScope sIsWeb) := ⟨rfl, rfl, rfl, by decide +kernel, rfl, by decide +kernel, by decide +kernel⟩
theorem d_isweb (T : Txt K mg) (S : Src K mg "_law_is_web" sIsWeb ["_law_found", "_law_due"]) (DW : Def P w K mg base 1 "_law_whole" ["_law_numbers"] (spLWhole K)) : Def P w K mg base 2 "_law_is_web" ["_law_found", "_law_due"] spIsWeb := by
  refine S.def scIsWeb84 (fun vs H Q E h => ?_) (fun f cdv A outer s H vs Q E hr h => ?_)
  · obtain ⟨_, _, _, _, rfl, _⟩ := h; rfl
  · obtain ⟨v, u, n, ps, rfl, W1, W2, h8, q⟩ := h
    obtain ⟨c, d, xs, rfl, hc, hd, ht⟩ := id W1.ex
    obtain ⟨c', d', xs', rfl, _⟩ := id W2.ex
    refine ⟨_, pss_cons (ps_if (PW.pt (pw_or (pt_not (pt_val (pe_callB (call_isiK K) (by rfl) T.isi boot_isi (pa_cons (pv 0) (pa_cons (pe_bltn (v := .ty "tuple") rfl T.tuple boot_tuple' rfl) pa_nil))))) (pw_or (pt_cmpR (op_neSK K (units66 hr)) (pv 0) (pv 1) (nomark _)) (pw_or1 (pt_not (pt_val (pe_def DW hr rfl (pa_cons (pe_lst (pa_cons (pe_ix (ix_tupK K) (pv 0) pe_int (fun _ _ => rfl)) pa_nil)) pa_nil)))))))) (pss_one (ps_ret pe_bl)) pss_nil)
      (pss_cons (ps_for PassesOwn.never rfl (pi_seqK K .t (pe_ix (ix_tupK K) (pv 0) pe_int (fun _ _ => rfl))) (pg_name (i := 2) scIsWeb84.nd rfl (Or.inl rfl))
        (pss_one (ps_if (PW.pt (pw_or (pt_not (pt_val (pe_callB (call_isiK K) (by rfl) T.isi boot_isi (pa_cons (pv 2) (pa_cons (pe_bltn (v := .ty "tuple") rfl T.tuple boot_tuple' rfl) pa_nil))))) (pw_or1 (pt_not (pt_val (pe_def DW hr rfl (pa_cons (pv 2) pa_nil))))))) (pss_one (ps_ret pe_bl)) pss_nil)))
      (pss_one (ps_ret pe_bl))), ?_⟩
    refine seq_abs fun M hM => ?_
    refine ⟨_, rfl, _, _, _, _, _, rfl, rfl, .tup hc, kp_tup K, _, rfl, iteF ?_⟩
    refine ⟨_, rfl, _, rfl, same_web W1 W2 ⟨_, rfl, iteF ?_⟩⟩
    refine ⟨_, rfl, c, _, _, _, rfl, rfl, SqT.of hc, atI_nat (j := 0) rfl, by show 1 <= sizeLine; decide, fun p hp => ?_⟩
    refine ⟨.l, p, [n], rfl, SqL.of upd_same, by show 1 <= 300; decide, fun H1 s1 => ⟨_, rfl, iteF (hM _ _ ?_)⟩⟩
    clear hM M
    have s01 := (Same.new (o := HO.lst [.int n]) hp).trans s1
    refine seq_abs fun M hM => ?_
    refine ⟨_, rfl, c, _, _, _, rfl, rfl, SqT.of (s01 _ _ hc), atI_nat (j := 1) rfl, d, rfl, ⟨_, SqT.of (s01 _ _ hd)⟩, for_seq (k := .t) (K := K) (a := d) (xs := xs) (fun i σ H' => (∃ u, σ = [some (.ref c), some (.ref c'), u]) /\ Same H H') ⟨⟨_, rfl⟩, s01⟩ (fun i σ H' _ z => SqT.of (z.2 _ _ hd)) ?_ ?_⟩
    · rintro i x σ H2 hxi ⟨⟨u, rfl⟩, s2⟩
      obtain ⟨t, et, b, rfl, hb⟩ := Paired.at ht hxi
      dsimp only [gName, List.set]
      refine ⟨_, rfl, _, _, _, _, _, rfl, rfl, .tup (s2 _ _ hb), kp_tup K, _, rfl, iteF ?_⟩
      exact ⟨_, rfl, .t, b, [t.1, t.2], rfl, SqT.of (s2 _ _ hb), by show 2 <= 300; decide, fun H3 s3 => ⟨_, rfl, iteF ⟨⟨_, rfl⟩, s2.trans s3⟩⟩⟩
    rintro σ H2 ⟨⟨u, rfl⟩, s2⟩
    refine hM _ _ ?_
    exact q H2 s2
end
theorem sqT_upd {K : W.Frag} {H : Hp} {t h : Addr} {xs zs : List V} {o : HO} (ht : SqT K H t xs) (hh : H h = some (.lst zs)) : SqT K (upd H h o) t xs := by
  rcases ht with (e | ⟨u, e⟩) | e
  · exact .inl (.inl (by rw [upd_ne (fun z => by rw [z, hh] at e; cases e)]; exact e))
  · exact .inl (.inr ⟨u, by rw [upd_ne (fun z => by rw [z, hh] at e; cases e)]; exact e⟩)
  · exact .inr e
def spRight (K : W.Frag) : Sp := fun vs H Q _ => ∃ (lt : Addr) (b : Bool) (ts : List Nat) (m : Nat), vs = [.ref lt, .bl b] /\ H lt = some (.lst ((ci ts).map V.int)) /\ Drw ts m /\ m <= 8 /\ ∀ H', Same H H' -> Q (.bl true) H'
def spLaw (K : W.Frag) : Sp := fun vs H Q _ => ∃ (a : Addr) (ns : List Int), vs = [.ref a] /\ SqL K H a (ns.map V.int) /\ ns.length <= 63 /\ ∀ H', Q (.bl true) H'
theorem cut84 (ns : List Int) : ∃ ms : List Int, cutV (ns.map V.int) (some 1) (some 9) = ms.map V.int /\ ms.length <= 8 := by
  have e1 := HT.sIx_nat (ns.map V.int).length 0 1
  have e9 := HT.sIx_nat (ns.map V.int).length (ns.map V.int).length 9
  refine ⟨(ns.drop (HT.sIx (ns.map V.int).length 0 (some 1))).take (HT.sIx (ns.map V.int).length (ns.map V.int).length (some 9) - HT.sIx (ns.map V.int).length 0 (some 1)), ?_, ?_⟩
  · unfold cutV
    rw [List.map_take, List.map_drop]
  · rw [List.length_take, List.length_drop]
    rw [show (some ((1 : Nat) : Int)) = some (1 : Int) from rfl] at e1
    rw [show (some ((9 : Nat) : Int)) = some (9 : Int) from rfl] at e9
    rw [e1, e9]
    lia
section
variable {P : Program} {w : World} {K : W.Frag} {mg : Str -> Option Value} {base : Heap}
theorem scRight : FnScope ["_law_turns", "_law_as_tuple", "_law_handed", "_law_found", "_law_k"] ["_law_turns", "_law_as_tuple"] (defScope sRight) := ⟨rfl, rfl, rfl, by decide +kernel, rfl, by decide +kernel, by decide +kernel⟩
theorem d_right (T : Txt K mg) (S : Src K mg "_law_right" sRight ["_law_turns", "_law_as_tuple"]) (DD : Def P w K mg base 4 "drawing_of" ["turns"] (spDrawing K)) (DW : Def P w K mg base 1 "_law_whole" ["_law_numbers"] (spLWhole K)) (DI : Def P w K mg base 2 "_law_is_web" ["_law_found", "_law_due"] spIsWeb) (DO : Def P w K mg base 3 "web_of" ["drawing"] (spWebOf K)) (DV : Def P w K mg base 3 "_law_web" ["_law_turns"] spLWeb)
    (DA : Def P w K mg base 2 "_law_are_rounds" ["_law_found", "_law_due"] (spAreR K)) (DR : Def P w K mg base 2 "rounds_of" ["drawing"] (spRounds K)) (DL : Def P w K mg base 3 "lands_of" ["drawing"] (spLands K)) (DF : Def P w K mg base 2 "_law_rounds" ["_law_turns", "_law_along"] spLRounds) : Def P w K mg base 5 "_law_right" ["_law_turns", "_law_as_tuple"] (spRight K) := by
  refine S.def scRight (fun vs H Q E h => ?_) (fun f cdv A outer s H vs Q E hr h => ?_)
  · obtain ⟨_, _, _, _, rfl, _⟩ := h; rfl
  · obtain ⟨lt, b, ts, m, rfl, hlt, D, m8, q⟩ := h
    have hr1 : Room 1 _ := hr.mono (by decide)
    have hr2 : Room 2 _ := hr.mono (by decide)
    have hr3 : Room 3 _ := hr.mono (by decide)
    refine ⟨_, pss_cons (ps_set (i := 2) scRight.nd rfl (Or.inl rfl) (pe_callTy (call_list_ofK K) rfl T.list boot_list' (pa_cons (pv 0) pa_nil)))
      (pss_cons (ps_if (pt_val (pv 1)) (pss_one (ps_set (i := 2) scRight.nd rfl (Or.inl rfl) (pe_callTy call_tupleF rfl T.tuple boot_tuple' (pa_cons (pv 0) pa_nil)))) pss_nil)
      (pss_cons (ps_set (i := 3) scRight.nd rfl (Or.inl rfl) (pe_def DD hr rfl (pa_cons (pv 2) pa_nil)))
      (pss_cons (ps_if (PW.pt (pw_or (pt_cmpR (op_neSK K (units66 hr)) (pe_callTy (call_list_ofK K) rfl T.list boot_list' (pa_cons (pv 2) pa_nil)) (pv 0) (nomark _)) (pw_or (pt_not (pt_val (pe_callB call_isT (by rfl) T.isi boot_isi (pa_cons (pv 3) (pa_cons (pe_bltn (v := .ty "tuple") rfl T.tuple boot_tuple' rfl) pa_nil))))) (pw_or1 (pt_not (pt_val (pe_def DW hr1 rfl (pa_cons (pv 3) pa_nil)))))))) (pss_one (ps_ret pe_bl)) pss_nil)
      (pss_cons (ps_if (pt_not (pt_val (pv 1))) (pss_one (ps_expr (pe_bm0 PySem.F.plainAttrs_list PySem.F.slot_list_clear PySem.F.type_list_clear mt_clear (pv 2)))) pss_nil)
      (pss_cons (ps_if (PW.pt (pw_or (pt_cmpR (op_neSK K (units66 hr)) (pv 3) (pe_callTy (call_tuple_ofK K) rfl T.tuple boot_tuple' (pa_cons (pv 0) pa_nil)) (nomark _)) (pw_or1 (pt_not (pt_val (pe_def DI hr2 rfl (pa_cons (pe_def DO hr3 rfl (pa_cons (pv 3) pa_nil)) (pa_cons (pe_def DV hr3 rfl (pa_cons (pv 0) pa_nil)) pa_nil)))))))) (pss_one (ps_ret pe_bl)) pss_nil)
      (pss_cons (ps_for PassesOwn.never rfl (pi_range1 rfl T.range (pa_cons pe_int pa_nil)) (pg_name (i := 4) scRight.nd rfl (Or.inl rfl))
        (pss_cons (ps_if (pt_not (pt_val (pe_def DA hr2 rfl (pa_cons (pe_def DR hr2 rfl (pa_cons (pv 3) pa_nil)) (pa_cons (pe_def DF hr2 rfl (pa_cons (pv 0) (pa_cons pe_int pa_nil))) pa_nil))))) (pss_one (ps_ret pe_bl)) pss_nil)
        (pss_one (ps_if (pt_not (pt_val (pe_def DA hr2 rfl (pa_cons (pe_def DL hr3 rfl (pa_cons (pv 3) pa_nil)) (pa_cons (pe_def DF hr2 rfl (pa_cons (pv 0) (pa_cons pe_int pa_nil))) pa_nil))))) (pss_one (ps_ret pe_bl)) pss_nil))))
      (pss_one (ps_ret pe_bl)))))))), ?_⟩
    have PT := D.perm
    have tl := D.len
    have PT' : PermOn (fn ts) ts.length := by rw [tl]; exact PT
    refine seq_abs fun M hM => ?_
    refine ⟨_, rfl, lt, _, rfl, .inl (SqL.of hlt), fun h0 hh0 => hM _ _ ?_⟩
    clear hM M
    have s0 := Same.new (o := HO.lst ((ci ts).map V.int)) hh0
    have h00 : (upd H h0 (.lst ((ci ts).map V.int))) h0 = some (.lst ((ci ts).map V.int)) := upd_same
    generalize upd H h0 (.lst ((ci ts).map V.int)) = H0 at s0 h00 ⊢
    dsimp only [List.set]
    refine seq_abs fun M hM => ?_
    have go : ∀ (kd : Kd) (h : Addr) (H1 : Hp), Same H H1 -> HK kd H1 h ((ci ts).map V.int) -> (b = false -> kd = .l /\ H h = none) -> M [some (.ref lt), some (.bl b), some (.ref h), none, none] H1 := fun kd h H1 s1 hk hb => by
      refine hM _ _ ?_
      clear hM M
      refine seq_abs fun M hM => ?_
      refine ⟨_, rfl, kd, h, ts, m, rfl, hk, D, m8, fun t H2 s2 ht => hM _ _ ?_⟩
      clear hM M
      dsimp only [List.set]
      have s12 := s1.trans s2
      have hk2 := hk.same s2
      refine seq_abs fun M hM => ?_
      refine ⟨_, rfl, h, (ci ts).map V.int, rfl, ?_, fun l3 hl3 => ?_⟩
      · cases kd with
        | l => exact .inl (HK.sq (kd := .l) hk2)
        | t => exact .inr (HK.sq (kd := .t) hk2)
      have s3 := Same.new (o := HO.lst ((ci ts).map V.int)) hl3
      refine ⟨_, rfl, same_lstO (SqL.of upd_same) (SqL.of (s3 _ _ (s12 _ _ hlt))) ⟨_, rfl, iteF ?_⟩⟩
      have ht3 := sqT s3 ht
      refine ⟨_, rfl, t, _, "tuple", true, rfl, ht3, kp_tup K, _, rfl, iteF ?_⟩
      refine ⟨_, rfl, .t, t, ci ts, rfl, ht3, by rw [ci_len]; lia, fun H4 s4 => ⟨_, rfl, iteF (hM _ _ ?_)⟩⟩
      clear hM M
      have ht4 := sqT s4 ht3
      have s14 := s12.trans (s3.trans s4)
      have hk4 := hk2.same (s3.trans s4)
      refine seq_abs fun M hM => ?_
      have rest : ∀ H5, Same H H5 -> SqT K H5 t ((ci ts).map V.int) -> M [some (.ref lt), some (.bl b), some (.ref h), some (.ref t), none] H5 := fun H5 s5 ht5 => by
        refine hM _ _ ?_
        clear hM M
        refine seq_abs fun M hM => ?_
        have hlt5 := s5 _ _ hlt
        refine ⟨_, rfl, _, rfl, lt, _, rfl, .inl ⟨SqL.of hlt5, fun t6 ht6 => ?_⟩⟩
        have s6 := Same.new (o := HO.tup ((ci ts).map V.int)) ht6
        refine same_tupI (sqT s6 ht5) (SqT.of upd_same) ⟨_, rfl, iteF ?_⟩
        have s56 := s5.trans s6
        refine ⟨_, rfl, t, ts, m, rfl, sqT s6 ht5, PT, tl, m8, fun wv H7 s7 W => ?_⟩
        have s57 := s56.trans s7
        refine ⟨_, rfl, lt, ts, m, rfl, s57 _ _ hlt, PT, tl, m8, fun wv2 H8 s8 W2 => ?_⟩
        refine ⟨wv, wv2, _, _, rfl, W.same s8, W2, by rw [tiesOf_len]; exact m8, fun H9 s9 => ⟨_, rfl, iteF (hM _ _ ?_)⟩⟩
        clear hM M
        have s59 := s57.trans (s8.trans s9)
        have ht9 := sqT (s6.trans (s7.trans (s8.trans s9))) ht5
        refine seq_abs fun M hM => ?_
        refine ⟨2, rfl, by decide, by decide, ?_⟩
        refine for_range (lo := 0) (n := 2) (fun i σ H' => (∃ u, σ = [some (.ref lt), some (.bl b), some (.ref h), some (.ref t), u]) /\ Same H9 H') ⟨⟨_, rfl⟩, Same.refl _⟩ ?_ ?_
        · rintro i σ H10 hi ⟨⟨u, rfl⟩, s10⟩
          dsimp only [gName, List.set]
          have rowb : ∀ (g : Nat -> Nat), PermOn g (2 * m) -> (rds g (2 * m)).length <= 20 /\ ∀ r ∈ rds g (2 * m), r.length <= 20 := fun g Pg => ⟨by have := rds_le g (2 * m); lia, fun r hrr => by have := rds_row Pg hrr; lia⟩
          refine seq_abs fun M2 hM2 => ?_
          refine ⟨_, rfl, t, ts, rfl, sqT s10 ht9, PT', by lia, fun l xs H11 s11 l0 hl hx => ?_⟩
          rw [tl] at hx
          have s9b := s59.trans (s10.trans s11)
          refine ⟨_, rfl, lt, ts, 0, m, rfl, s9b _ _ hlt, PT, tl, m8, .inl rfl, fun l2 ys H12 s12 _ hl2 hy => ?_⟩
          obtain ⟨b1, b2⟩ := rowb (fn ts) PT
          refine ⟨H10, H11, l, l2, xs, ys, _, rfl, s11.trans s12, l0, s12 _ _ hl, hl2, rows_same hx s12, hy, b1, b2, fun H13 s13 => ⟨_, rfl, iteF (hM2 _ _ ?_)⟩⟩
          clear hM2 M2
          have s1013 := s10.trans s13
          refine ⟨_, rfl, t, ts, m, rfl, sqT s1013 ht9, PT, tl, m8, fun l xs H14 s14 l0 hl hx => ?_⟩
          have s9c := s59.trans (s1013.trans s14)
          refine ⟨_, rfl, lt, ts, 1, m, rfl, s9c _ _ hlt, PT, tl, m8, .inr rfl, fun l2 ys H15 s15 _ hl2 hy => ?_⟩
          obtain ⟨b3, b4⟩ := rowb (phi ts) PT.phi
          exact ⟨H13, H14, l, l2, xs, ys, _, rfl, s14.trans s15, l0, s15 _ _ hl, hl2, rows_same hx s15, hy, b3, b4, fun H16 s16 => ⟨_, rfl, iteF ⟨⟨_, rfl⟩, s1013.trans s16⟩⟩⟩
        · rintro σ H10 ⟨⟨u, rfl⟩, s10⟩
          exact hM _ _ (q H10 (s59.trans s10))
      refine ⟨_, rfl, _, rfl, ?_⟩
      cases b with
      | true => exact iteF (rest H4 s14 ht4)
      | false =>
        obtain ⟨rfl, hn⟩ := hb rfl
        have hk5 : H4 h = some (.lst ((ci ts).map V.int)) := hk4
        refine iteT ⟨_, rfl, .inl ⟨rfl, _, SqL.of hk5⟩, h, _, rfl, rfl, hk5, ?_⟩
        exact rest _ (Same.put84 s14 hn) (sqT_upd ht4 hk5)
    refine ⟨_, rfl, _, rfl, ?_⟩
    cases b with
    | true =>
      refine iteT ⟨_, rfl, lt, (ci ts).map V.int, rfl, .inl ⟨SqL.of (s0 _ _ hlt), fun t o oc od ht => ?_⟩⟩
      exact go .t t _ (s0.trans (Same.new ht)) (FzT.new oc od) (fun z => nomatch z)
    | false => exact iteF (go .l h0 H0 s0 h00 (fun _ => ⟨rfl, hh0⟩))
theorem scLaw : FnScope ["_law_script", "_law_turns", "_law_cell"] ["_law_script"] (defScope sLaw) := ⟨rfl, rfl, rfl, by decide +kernel, rfl, by decide +kernel, by decide +kernel⟩
theorem ok_law {f : Addr} {fd : FuncData} (F : Fun K "law" "law" sLaw f fd) (T : Txt K mg) (DA : Def P w K mg base 1 "_law_at" ["_law_script", "_law_k"] (spAt K)) (DR : Def P w K mg base 5 "_law_right" ["_law_turns", "_law_as_tuple"] (spRight K)) (DG : Def P w K mg base 2 "_law_grown" ["_law_old", "_law_cell"] spGrown) (DN : Def P w K mg base 1 "_law_numbered" ["_law_turns", "_law_cell"] spNumbered) (DV : Def P w K mg base 3 "_law_web" ["_law_turns"] spLWeb) : FnOk P w K mg base CX0 6 f fd ["_law_script"] (spLaw K) := by
  refine F.ok scLaw (fun vs H Q E h => ?_) (fun cdv A outer s H vs Q E hr h => ?_)
  · obtain ⟨a, ns, rfl, _⟩ := h; rfl
  · obtain ⟨a, ns, rfl, hq, hlen, q⟩ := h
    have hr1 : Room 1 _ := hr.mono (by decide)
    have hr2 : Room 2 _ := hr.mono (by decide)
    have hr3 : Room 3 _ := hr.mono (by decide)
    refine ⟨_, pss_cons (ps_set (i := 1) scLaw.nd rfl (Or.inl rfl) (pe_lst pa_nil))
      (pss_cons (ps_if (pt_not (pt_val (pe_def DR hr rfl (pa_cons (pv 1) (pa_cons (pe_cmpR op_eq (pe_op op_mod (pe_def DA hr1 rfl (pa_cons (pv 0) (pa_cons pe_int pa_nil))) pe_int) pe_int (nomark _)) pa_nil))))) (pss_one (ps_ret pe_bl)) pss_nil)
      (pss_cons (ps_for PassesOwn.never rfl (pi_seqK K .l (pe_slice (sl_listK K) (pv 0) (po_some pe_int) (po_some pe_int))) (pg_name (i := 2) scLaw.nd rfl (Or.inl rfl))
        (pss_cons (ps_set (i := 1) scLaw.nd rfl (Or.inl rfl) (pe_def DG hr2 rfl (pa_cons (pv 1) (pa_cons (pv 2) pa_nil))))
        (pss_one (ps_if (pt_not (pt_val (pe_def DR hr rfl (pa_cons (pv 1) (pa_cons (pe_cmpR op_eq (pe_op op_mod (pe_op op_fdiv (pv 2) pe_int) pe_int) pe_int (nomark _)) pa_nil))))) (pss_one (ps_ret pe_bl)) pss_nil))))
      (pss_cons (ps_for PassesOwn.never rfl (pi_seqK K .l (pe_slice (sl_listK K) (pv 0) (po_some pe_int) (po_some pe_int))) (pg_name (i := 2) scLaw.nd rfl (Or.inl rfl))
        (pss_cons (ps_set (i := 1) scLaw.nd rfl (Or.inl rfl) (pe_def DN hr1 rfl (pa_cons (pv 1) (pa_cons (pe_op op_fdiv (pv 2) pe_int) pa_nil))))
        (pss_one (ps_if (pt_not (pt_val (pe_def DR hr rfl (pa_cons (pv 1) (pa_cons (pe_cmpR op_eq (pe_op op_mod (pv 2) pe_int) pe_int (nomark _)) pa_nil))))) (pss_one (ps_ret pe_bl)) pss_nil))))
      (pss_one (ps_ret (pe_cmpR op_eq (pe_callB (call_lenK K) (by rfl) T.len PySem.boot_len (pa_cons (pe_ix (ix_tupK K) (pe_def DV hr3 rfl (pa_cons (pv 1) pa_nil)) pe_int (fun _ _ => rfl)) pa_nil)) (pe_op op_fdiv (pe_callB (call_lenK K) (by rfl) T.len PySem.boot_len (pa_cons (pv 1) pa_nil)) pe_int) (nomark _))))))), ?_⟩
    refine seq_abs fun M hM => ?_
    refine ⟨Nat.zero_le _, fun l hl => hM _ _ ?_⟩
    clear hM M
    have s1 := Same.new (o := HO.lst []) hl
    have hl1 : (upd H l (.lst [])) l = some (.lst ((ci []).map V.int)) := upd_same
    generalize upd H l (.lst []) = H1 at s1 hl1 ⊢
    refine seq_abs fun M hM => ?_
    refine ⟨_, rfl, _, rfl, a, ns, 0, rfl, s1.seq hq, _, _, rfl, rfl, (by show (0 : Int) < 2; decide), rfl, l, _, [], 0, rfl, hl1, drw0, by decide, fun H2 s2 => ⟨_, rfl, iteF (hM _ _ ?_)⟩⟩
    clear hM M
    have s12 := s1.trans s2
    refine seq_abs fun M hM => ?_
    obtain ⟨ms, em, ml⟩ := cut84 ns
    refine ⟨_, rfl, _, rfl, _, rfl, a, _, rfl, s12.seq hq, fun p hp => ?_⟩
    rw [em]
    have s3 := Same.new (o := HO.lst (ms.map V.int)) hp
    have hp3 : (upd H2 p (.lst (ms.map V.int))) p = some (.lst (ms.map V.int)) := upd_same
    have hl3 := s3 _ _ (s2 _ _ hl1)
    have s13 := s12.trans s3
    generalize upd H2 p (.lst (ms.map V.int)) = H3 at s3 hp3 hl3 s13 ⊢
    refine ⟨p, rfl, ⟨_, SqL.of hp3⟩, for_seq (k := .l) (K := K) (a := p) (xs := ms.map V.int) (fun i σ H' => Same H3 H' /\ ∃ lt ts u, σ = [some (.ref a), some (.ref lt), u] /\ H' lt = some (.lst ((ci ts).map V.int)) /\ Drw ts i) ⟨Same.refl _, l, [], _, rfl, hl3, drw0⟩ (fun i σ H' _ z => SqL.of (z.1 _ _ hp3)) ?_ ?_⟩
    · rintro i x σ H4 hxi ⟨s4, lt, ts, u, rfl, hlt, D⟩
      have il := (List.getElem?_eq_some_iff.mp hxi).1
      rw [List.length_map] at il
      obtain ⟨c, rfl⟩ : ∃ c, x = V.int c := by
        rw [List.getElem?_map] at hxi
        cases e : ms[i]? with
        | none => rw [e] at hxi; cases hxi
        | some k => rw [e] at hxi; exact ⟨k, (Option.some.inj hxi).symm⟩
      dsimp only [gName, List.set]
      refine ⟨_, rfl, _, rfl, lt, ts, i, c, rfl, hlt, D, by lia, fun l5 us H5 s5 hl5 D5 => ?_⟩
      dsimp only [List.set]
      exact ⟨_, rfl, _, rfl, _, _, rfl, rfl, ⟨by decide, by decide⟩, _, _, rfl, rfl, (by show (0 : Int) < 2; decide), rfl, l5, _, us, i + 1, rfl, hl5, D5, by lia, fun H6 s6 => ⟨_, rfl, iteF ⟨s4.trans (s5.trans s6), l5, us, _, rfl, s6 _ _ hl5, D5⟩⟩⟩
    rintro σ H4 ⟨s4, lt, ts, u, rfl, hlt, D⟩
    refine hM _ _ ?_
    clear hM M
    rw [List.length_map] at D
    refine seq_abs fun M hM => ?_
    obtain ⟨ms2, em2, ml2⟩ := cut_map ns (some 9) (some 17)
    have s14 := s13.trans s4
    refine ⟨_, rfl, _, rfl, _, rfl, a, _, rfl, s14.seq hq, fun p5 hp5 => ?_⟩
    rw [em2]
    have s5 := Same.new (o := HO.lst (ms2.map V.int)) hp5
    have hp6 : (upd H4 p5 (.lst (ms2.map V.int))) p5 = some (.lst (ms2.map V.int)) := upd_same
    have hlt5 := s5 _ _ hlt
    generalize upd H4 p5 (.lst (ms2.map V.int)) = H5 at s5 hp6 hlt5 ⊢
    refine ⟨p5, rfl, ⟨_, SqL.of hp6⟩, for_seq (k := .l) (K := K) (a := p5) (xs := ms2.map V.int) (fun i σ H' => Same H5 H' /\ ∃ lt ts u, σ = [some (.ref a), some (.ref lt), u] /\ H' lt = some (.lst ((ci ts).map V.int)) /\ Drw ts ms.length) ⟨Same.refl _, lt, ts, _, rfl, hlt5, D⟩ (fun i σ H' _ z => SqL.of (z.1 _ _ hp6)) ?_ ?_⟩
    · rintro i x σ H6 hxi ⟨s6, lt, ts, u, rfl, hlt, D⟩
      obtain ⟨c, rfl⟩ : ∃ c, x = V.int c := by
        rw [List.getElem?_map] at hxi
        cases e : ms2[i]? with
        | none => rw [e] at hxi; cases hxi
        | some k => rw [e] at hxi; exact ⟨k, (Option.some.inj hxi).symm⟩
      dsimp only [gName, List.set]
      refine ⟨_, rfl, _, rfl, _, _, rfl, rfl, ⟨by decide, by decide⟩, lt, ts, ms.length, c / 2, rfl, hlt, D, ml, fun l7 us H7 s7 hl7 D7 => ?_⟩
      dsimp only [List.set]
      exact ⟨_, rfl, _, rfl, _, _, rfl, rfl, (by show (0 : Int) < 2; decide), rfl, l7, _, us, ms.length, rfl, hl7, D7, ml, fun H8 s8 => ⟨_, rfl, iteF ⟨s6.trans (s7.trans s8), l7, us, _, rfl, s8 _ _ hl7, D7⟩⟩⟩
    rintro σ H6 ⟨s6, lt, ts, u, rfl, hlt, D⟩
    refine hM _ _ ?_
    refine ⟨_, rfl, lt, ts, ms.length, rfl, hlt, D.perm, D.len, ml, fun wv H7 s7 W => ?_⟩
    obtain ⟨c, d, zs, rfl, hc, hd, hz⟩ := W.ex
    have zl := Paired.length hz
    rw [tiesOf_len] at zl
    refine ⟨c, _, _, _, rfl, rfl, SqT.of hc, atI_nat (j := 1) rfl, d, zs, rfl, .inr (SqT.of hd), _, rfl, lt, _, rfl, .inl (SqL.of (s7 _ _ hlt)), _, _, rfl, rfl, ⟨by decide, by decide⟩, rfl, ?_⟩
    rw [List.length_map, ci_len, D.len, zl, decide_eq_true (show V.int ((ms.length : Nat) : Int) = V.int (((2 * ms.length : Nat) : Int) / 2) by congr 1; lia)]
    exact q H7
end
theorem src_mk {K : W.Frag} {h : Heap} {mg : Str -> Option Value} {x : Str} {st : Stmt} {f : Addr} {ps : List Str} {oc : Value} {od an : Option Addr} {osl : Array (Option Value)} {kV doc pm cdv ct : Value} (X : K.In h) (G : h.Ns mainGlobals mg)
    (a : PySem.W.nsIn K mainGlobals x = some (some (.ref f))) (l : K.lookup f = some ⟨oc, od, .func (PySem.W.fnOf x x (defArgs st) (defBody st) (defScope st) .none kV doc pm an cdv ct), osl⟩) (c : PySem.W.codeIn K cdv x = true) (k : PySem.W.keepIn K (.ref f) = true)
    (hb : ∀ (kV doc pm : Value) (an : Option Addr) (cdv ct : Value) (us : List Value), us.length = ps.length -> bindArgs (PySem.W.fnOf x x (defArgs st) (defBody st) (defScope st) .none kV doc pm an cdv ct) ⟨us, []⟩ = pure (ps.zip us)) : Src K mg x st ps :=
  ⟨_, _, fun_mk (st := st) l c k, (fun_mk (st := st) l c k).binds hb, PySem.W.mg_of X G a⟩
theorem all_mk {l : PySem.W.OpenLaw} {w : World} {K : W.Frag} {h : Heap} {mg : Str -> Option Value} {fa : Addr} (X : K.In h) (G : h.Ns mainGlobals mg) (hfa : mg "law" = some (.ref fa))
    {f0 : Addr} {od0 an0 : Option Addr} {sl0 : Array (Option Value)} {oc0 kV0 dc0 pm0 cd0 ct0 : Value}
    (a0 : PySem.W.nsIn K mainGlobals "is_whole" = some (some (.ref f0))) (l0 : K.lookup f0 = some ⟨oc0, od0, .func (PySem.W.fnOf "is_whole" "is_whole" (defArgs sIsWhole) (defBody sIsWhole) (defScope sIsWhole) .none kV0 dc0 pm0 an0 cd0 ct0), sl0⟩) (c0 : PySem.W.codeIn K cd0 "is_whole" = true) (k0 : PySem.W.keepIn K (.ref f0) = true)
    {f1 : Addr} {od1 an1 : Option Addr} {sl1 : Array (Option Value)} {oc1 kV1 dc1 pm1 cd1 ct1 : Value}
    (a1 : PySem.W.nsIn K mainGlobals "is_each_once" = some (some (.ref f1))) (l1 : K.lookup f1 = some ⟨oc1, od1, .func (PySem.W.fnOf "is_each_once" "is_each_once" (defArgs sEach) (defBody sEach) (defScope sEach) .none kV1 dc1 pm1 an1 cd1 ct1), sl1⟩) (c1 : PySem.W.codeIn K cd1 "is_each_once" = true) (k1 : PySem.W.keepIn K (.ref f1) = true)
    {f2 : Addr} {od2 an2 : Option Addr} {sl2 : Array (Option Value)} {oc2 kV2 dc2 pm2 cd2 ct2 : Value}
    (a2 : PySem.W.nsIn K mainGlobals "lesser_first" = some (some (.ref f2))) (l2 : K.lookup f2 = some ⟨oc2, od2, .func (PySem.W.fnOf "lesser_first" "lesser_first" (defArgs sLesser) (defBody sLesser) (defScope sLesser) .none kV2 dc2 pm2 an2 cd2 ct2), sl2⟩) (c2 : PySem.W.codeIn K cd2 "lesser_first" = true) (k2 : PySem.W.keepIn K (.ref f2) = true)
    {f3 : Addr} {od3 an3 : Option Addr} {sl3 : Array (Option Value)} {oc3 kV3 dc3 pm3 cd3 ct3 : Value}
    (a3 : PySem.W.nsIn K mainGlobals "whole_pick" = some (some (.ref f3))) (l3 : K.lookup f3 = some ⟨oc3, od3, .func (PySem.W.fnOf "whole_pick" "whole_pick" (defArgs sWhole) (defBody sWhole) (defScope sWhole) .none kV3 dc3 pm3 an3 cd3 ct3), sl3⟩) (c3 : PySem.W.codeIn K cd3 "whole_pick" = true) (k3 : PySem.W.keepIn K (.ref f3) = true)
    {f4 : Addr} {od4 an4 : Option Addr} {sl4 : Array (Option Value)} {oc4 kV4 dc4 pm4 cd4 ct4 : Value}
    (a4 : PySem.W.nsIn K mainGlobals "heads_of" = some (some (.ref f4))) (l4 : K.lookup f4 = some ⟨oc4, od4, .func (PySem.W.fnOf "heads_of" "heads_of" (defArgs sHeads) (defBody sHeads) (defScope sHeads) .none kV4 dc4 pm4 an4 cd4 ct4), sl4⟩) (c4 : PySem.W.codeIn K cd4 "heads_of" = true) (k4 : PySem.W.keepIn K (.ref f4) = true)
    {f5 : Addr} {od5 an5 : Option Addr} {sl5 : Array (Option Value)} {oc5 kV5 dc5 pm5 cd5 ct5 : Value}
    (a5 : PySem.W.nsIn K mainGlobals "clusters_of" = some (some (.ref f5))) (l5 : K.lookup f5 = some ⟨oc5, od5, .func (PySem.W.fnOf "clusters_of" "clusters_of" (defArgs sClus) (defBody sClus) (defScope sClus) .none kV5 dc5 pm5 an5 cd5 ct5), sl5⟩) (c5 : PySem.W.codeIn K cd5 "clusters_of" = true) (k5 : PySem.W.keepIn K (.ref f5) = true)
    {f6 : Addr} {od6 an6 : Option Addr} {sl6 : Array (Option Value)} {oc6 kV6 dc6 pm6 cd6 ct6 : Value}
    (a6 : PySem.W.nsIn K mainGlobals "points_under" = some (some (.ref f6))) (l6 : K.lookup f6 = some ⟨oc6, od6, .func (PySem.W.fnOf "points_under" "points_under" (defArgs sUnder) (defBody sUnder) (defScope sUnder) .none kV6 dc6 pm6 an6 cd6 ct6), sl6⟩) (c6 : PySem.W.codeIn K cd6 "points_under" = true) (k6 : PySem.W.keepIn K (.ref f6) = true)
    {f7 : Addr} {od7 an7 : Option Addr} {sl7 : Array (Option Value)} {oc7 kV7 dc7 pm7 cd7 ct7 : Value}
    (a7 : PySem.W.nsIn K mainGlobals "is_joined" = some (some (.ref f7))) (l7 : K.lookup f7 = some ⟨oc7, od7, .func (PySem.W.fnOf "is_joined" "is_joined" (defArgs sJoined) (defBody sJoined) (defScope sJoined) .none kV7 dc7 pm7 an7 cd7 ct7), sl7⟩) (c7 : PySem.W.codeIn K cd7 "is_joined" = true) (k7 : PySem.W.keepIn K (.ref f7) = true)
    {f8 : Addr} {od8 an8 : Option Addr} {sl8 : Array (Option Value)} {oc8 kV8 dc8 pm8 cd8 ct8 : Value}
    (a8 : PySem.W.nsIn K mainGlobals "drawing_of" = some (some (.ref f8))) (l8 : K.lookup f8 = some ⟨oc8, od8, .func (PySem.W.fnOf "drawing_of" "drawing_of" (defArgs sDrawing) (defBody sDrawing) (defScope sDrawing) .none kV8 dc8 pm8 an8 cd8 ct8), sl8⟩) (c8 : PySem.W.codeIn K cd8 "drawing_of" = true) (k8 : PySem.W.keepIn K (.ref f8) = true)
    {f9 : Addr} {od9 an9 : Option Addr} {sl9 : Array (Option Value)} {oc9 kV9 dc9 pm9 cd9 ct9 : Value}
    (a9 : PySem.W.nsIn K mainGlobals "web_of" = some (some (.ref f9))) (l9 : K.lookup f9 = some ⟨oc9, od9, .func (PySem.W.fnOf "web_of" "web_of" (defArgs sWebOf) (defBody sWebOf) (defScope sWebOf) .none kV9 dc9 pm9 an9 cd9 ct9), sl9⟩) (c9 : PySem.W.codeIn K cd9 "web_of" = true) (k9 : PySem.W.keepIn K (.ref f9) = true)
    {f10 : Addr} {od10 an10 : Option Addr} {sl10 : Array (Option Value)} {oc10 kV10 dc10 pm10 cd10 ct10 : Value}
    (a10 : PySem.W.nsIn K mainGlobals "rounds_of" = some (some (.ref f10))) (l10 : K.lookup f10 = some ⟨oc10, od10, .func (PySem.W.fnOf "rounds_of" "rounds_of" (defArgs sRounds) (defBody sRounds) (defScope sRounds) .none kV10 dc10 pm10 an10 cd10 ct10), sl10⟩) (c10 : PySem.W.codeIn K cd10 "rounds_of" = true) (k10 : PySem.W.keepIn K (.ref f10) = true)
    {f11 : Addr} {od11 an11 : Option Addr} {sl11 : Array (Option Value)} {oc11 kV11 dc11 pm11 cd11 ct11 : Value}
    (a11 : PySem.W.nsIn K mainGlobals "round_from" = some (some (.ref f11))) (l11 : K.lookup f11 = some ⟨oc11, od11, .func (PySem.W.fnOf "round_from" "round_from" (defArgs sRound) (defBody sRound) (defScope sRound) .none kV11 dc11 pm11 an11 cd11 ct11), sl11⟩) (c11 : PySem.W.codeIn K cd11 "round_from" = true) (k11 : PySem.W.keepIn K (.ref f11) = true)
    {f12 : Addr} {od12 an12 : Option Addr} {sl12 : Array (Option Value)} {oc12 kV12 dc12 pm12 cd12 ct12 : Value}
    (a12 : PySem.W.nsIn K mainGlobals "lands_of" = some (some (.ref f12))) (l12 : K.lookup f12 = some ⟨oc12, od12, .func (PySem.W.fnOf "lands_of" "lands_of" (defArgs sLands) (defBody sLands) (defScope sLands) .none kV12 dc12 pm12 an12 cd12 ct12), sl12⟩) (c12 : PySem.W.codeIn K cd12 "lands_of" = true) (k12 : PySem.W.keepIn K (.ref f12) = true)
    {f13 : Addr} {od13 an13 : Option Addr} {sl13 : Array (Option Value)} {oc13 kV13 dc13 pm13 cd13 ct13 : Value}
    (a13 : PySem.W.nsIn K mainGlobals "other_one" = some (some (.ref f13))) (l13 : K.lookup f13 = some ⟨oc13, od13, .func (PySem.W.fnOf "other_one" "other_one" (defArgs sOther) (defBody sOther) (defScope sOther) .none kV13 dc13 pm13 an13 cd13 ct13), sl13⟩) (c13 : PySem.W.codeIn K cd13 "other_one" = true) (k13 : PySem.W.keepIn K (.ref f13) = true)
    {f14 : Addr} {od14 an14 : Option Addr} {sl14 : Array (Option Value)} {oc14 kV14 dc14 pm14 cd14 ct14 : Value}
    (a14 : PySem.W.nsIn K mainGlobals "mate_of" = some (some (.ref f14))) (l14 : K.lookup f14 = some ⟨oc14, od14, .func (PySem.W.fnOf "mate_of" "mate_of" (defArgs sMate) (defBody sMate) (defScope sMate) .none kV14 dc14 pm14 an14 cd14 ct14), sl14⟩) (c14 : PySem.W.codeIn K cd14 "mate_of" = true) (k14 : PySem.W.keepIn K (.ref f14) = true)
    {f15 : Addr} {od15 an15 : Option Addr} {sl15 : Array (Option Value)} {oc15 kV15 dc15 pm15 cd15 ct15 : Value}
    (a15 : PySem.W.nsIn K mainGlobals "_law_at" = some (some (.ref f15))) (l15 : K.lookup f15 = some ⟨oc15, od15, .func (PySem.W.fnOf "_law_at" "_law_at" (defArgs sAt) (defBody sAt) (defScope sAt) .none kV15 dc15 pm15 an15 cd15 ct15), sl15⟩) (c15 : PySem.W.codeIn K cd15 "_law_at" = true) (k15 : PySem.W.keepIn K (.ref f15) = true)
    {f16 : Addr} {od16 an16 : Option Addr} {sl16 : Array (Option Value)} {oc16 kV16 dc16 pm16 cd16 ct16 : Value}
    (a16 : PySem.W.nsIn K mainGlobals "_law_round" = some (some (.ref f16))) (l16 : K.lookup f16 = some ⟨oc16, od16, .func (PySem.W.fnOf "_law_round" "_law_round" (defArgs sLRound) (defBody sLRound) (defScope sLRound) .none kV16 dc16 pm16 an16 cd16 ct16), sl16⟩) (c16 : PySem.W.codeIn K cd16 "_law_round" = true) (k16 : PySem.W.keepIn K (.ref f16) = true)
    {f17 : Addr} {od17 an17 : Option Addr} {sl17 : Array (Option Value)} {oc17 kV17 dc17 pm17 cd17 ct17 : Value}
    (a17 : PySem.W.nsIn K mainGlobals "_law_rounds" = some (some (.ref f17))) (l17 : K.lookup f17 = some ⟨oc17, od17, .func (PySem.W.fnOf "_law_rounds" "_law_rounds" (defArgs sLRounds) (defBody sLRounds) (defScope sLRounds) .none kV17 dc17 pm17 an17 cd17 ct17), sl17⟩) (c17 : PySem.W.codeIn K cd17 "_law_rounds" = true) (k17 : PySem.W.keepIn K (.ref f17) = true)
    {f18 : Addr} {od18 an18 : Option Addr} {sl18 : Array (Option Value)} {oc18 kV18 dc18 pm18 cd18 ct18 : Value}
    (a18 : PySem.W.nsIn K mainGlobals "_law_behind" = some (some (.ref f18))) (l18 : K.lookup f18 = some ⟨oc18, od18, .func (PySem.W.fnOf "_law_behind" "_law_behind" (defArgs sBehind) (defBody sBehind) (defScope sBehind) .none kV18 dc18 pm18 an18 cd18 ct18), sl18⟩) (c18 : PySem.W.codeIn K cd18 "_law_behind" = true) (k18 : PySem.W.keepIn K (.ref f18) = true)
    {f19 : Addr} {od19 an19 : Option Addr} {sl19 : Array (Option Value)} {oc19 kV19 dc19 pm19 cd19 ct19 : Value}
    (a19 : PySem.W.nsIn K mainGlobals "_law_grown" = some (some (.ref f19))) (l19 : K.lookup f19 = some ⟨oc19, od19, .func (PySem.W.fnOf "_law_grown" "_law_grown" (defArgs sGrown) (defBody sGrown) (defScope sGrown) .none kV19 dc19 pm19 an19 cd19 ct19), sl19⟩) (c19 : PySem.W.codeIn K cd19 "_law_grown" = true) (k19 : PySem.W.keepIn K (.ref f19) = true)
    {f20 : Addr} {od20 an20 : Option Addr} {sl20 : Array (Option Value)} {oc20 kV20 dc20 pm20 cd20 ct20 : Value}
    (a20 : PySem.W.nsIn K mainGlobals "_law_numbered" = some (some (.ref f20))) (l20 : K.lookup f20 = some ⟨oc20, od20, .func (PySem.W.fnOf "_law_numbered" "_law_numbered" (defArgs sNumbered) (defBody sNumbered) (defScope sNumbered) .none kV20 dc20 pm20 an20 cd20 ct20), sl20⟩) (c20 : PySem.W.codeIn K cd20 "_law_numbered" = true) (k20 : PySem.W.keepIn K (.ref f20) = true)
    {f21 : Addr} {od21 an21 : Option Addr} {sl21 : Array (Option Value)} {oc21 kV21 dc21 pm21 cd21 ct21 : Value}
    (a21 : PySem.W.nsIn K mainGlobals "_law_web" = some (some (.ref f21))) (l21 : K.lookup f21 = some ⟨oc21, od21, .func (PySem.W.fnOf "_law_web" "_law_web" (defArgs sLWeb) (defBody sLWeb) (defScope sLWeb) .none kV21 dc21 pm21 an21 cd21 ct21), sl21⟩) (c21 : PySem.W.codeIn K cd21 "_law_web" = true) (k21 : PySem.W.keepIn K (.ref f21) = true)
    {f22 : Addr} {od22 an22 : Option Addr} {sl22 : Array (Option Value)} {oc22 kV22 dc22 pm22 cd22 ct22 : Value}
    (a22 : PySem.W.nsIn K mainGlobals "_law_whole" = some (some (.ref f22))) (l22 : K.lookup f22 = some ⟨oc22, od22, .func (PySem.W.fnOf "_law_whole" "_law_whole" (defArgs sLWhole) (defBody sLWhole) (defScope sLWhole) .none kV22 dc22 pm22 an22 cd22 ct22), sl22⟩) (c22 : PySem.W.codeIn K cd22 "_law_whole" = true) (k22 : PySem.W.keepIn K (.ref f22) = true)
    {f23 : Addr} {od23 an23 : Option Addr} {sl23 : Array (Option Value)} {oc23 kV23 dc23 pm23 cd23 ct23 : Value}
    (a23 : PySem.W.nsIn K mainGlobals "_law_are_rounds" = some (some (.ref f23))) (l23 : K.lookup f23 = some ⟨oc23, od23, .func (PySem.W.fnOf "_law_are_rounds" "_law_are_rounds" (defArgs sAreR) (defBody sAreR) (defScope sAreR) .none kV23 dc23 pm23 an23 cd23 ct23), sl23⟩) (c23 : PySem.W.codeIn K cd23 "_law_are_rounds" = true) (k23 : PySem.W.keepIn K (.ref f23) = true)
    {f24 : Addr} {od24 an24 : Option Addr} {sl24 : Array (Option Value)} {oc24 kV24 dc24 pm24 cd24 ct24 : Value}
    (a24 : PySem.W.nsIn K mainGlobals "_law_is_web" = some (some (.ref f24))) (l24 : K.lookup f24 = some ⟨oc24, od24, .func (PySem.W.fnOf "_law_is_web" "_law_is_web" (defArgs sIsWeb) (defBody sIsWeb) (defScope sIsWeb) .none kV24 dc24 pm24 an24 cd24 ct24), sl24⟩) (c24 : PySem.W.codeIn K cd24 "_law_is_web" = true) (k24 : PySem.W.keepIn K (.ref f24) = true)
    {f25 : Addr} {od25 an25 : Option Addr} {sl25 : Array (Option Value)} {oc25 kV25 dc25 pm25 cd25 ct25 : Value}
    (a25 : PySem.W.nsIn K mainGlobals "_law_right" = some (some (.ref f25))) (l25 : K.lookup f25 = some ⟨oc25, od25, .func (PySem.W.fnOf "_law_right" "_law_right" (defArgs sRight) (defBody sRight) (defScope sRight) .none kV25 dc25 pm25 an25 cd25 ct25), sl25⟩) (c25 : PySem.W.codeIn K cd25 "_law_right" = true) (k25 : PySem.W.keepIn K (.ref f25) = true)
    {f26 : Addr} {od26 an26 : Option Addr} {sl26 : Array (Option Value)} {oc26 kV26 dc26 pm26 cd26 ct26 : Value}
    (a26 : PySem.W.nsIn K mainGlobals "law" = some (some (.ref f26))) (l26 : K.lookup f26 = some ⟨oc26, od26, .func (PySem.W.fnOf "law" "law" (defArgs sLaw) (defBody sLaw) (defScope sLaw) .none kV26 dc26 pm26 an26 cd26 ct26), sl26⟩) (c26 : PySem.W.codeIn K cd26 "law" = true) (k26 : PySem.W.keepIn K (.ref f26) = true)
    (z0 : PySem.W.nsIn K mainGlobals "isinstance" = some none)
    (z1 : PySem.W.nsIn K mainGlobals "int" = some none)
    (z2 : PySem.W.nsIn K mainGlobals "bool" = some none)
    (z3 : PySem.W.nsIn K mainGlobals "len" = some none)
    (z4 : PySem.W.nsIn K mainGlobals "tuple" = some none)
    (z5 : PySem.W.nsIn K mainGlobals "all" = some none)
    (z6 : PySem.W.nsIn K mainGlobals "list" = some none)
    (z7 : PySem.W.nsIn K mainGlobals "min" = some none)
    (z8 : PySem.W.nsIn K mainGlobals "max" = some none)
    (z9 : PySem.W.nsIn K mainGlobals "range" = some none)
    (z10 : PySem.W.nsIn K mainGlobals "set" = some none)
    (z11 : PySem.W.nsIn K mainGlobals "sorted" = some none)
    (z12 : PySem.W.nsIn K mainGlobals "any" = some none)
    (z13 : PySem.W.nsIn K mainGlobals "enumerate" = some none)
    {ti0 : Tok} (y0 : PySem.W.nsIn K mainGlobals "MOST_TIES" = some (some (.int 8 ti0)))
    : ∃ fd : FuncData, (∀ (s : Shared) (v : Value), BindsTo s fd ⟨[v], []⟩ [("_law_script", v)]) /\ ∀ base : Heap, K.In base -> base.Ns mainGlobals mg -> FnOk l.prog w K mg base CX0 6 fa fd ["_law_script"] (spLaw K) := by
  have e := hfa.symm.trans (PySem.W.mg_of X G a26)
  cases e
  have S0 : Src K mg "is_whole" sIsWhole ["thing"] := src_mk X G a0 l0 c0 k0 fun _ _ _ _ _ _ us hl => match us, hl with | [_], _ => rfl
  have S1 : Src K mg "is_each_once" sEach ["thing", "many"] := src_mk X G a1 l1 c1 k1 fun _ _ _ _ _ _ us hl => match us, hl with | [_, _], _ => rfl
  have S2 : Src K mg "lesser_first" sLesser ["a", "b"] := src_mk X G a2 l2 c2 k2 fun _ _ _ _ _ _ us hl => match us, hl with | [_, _], _ => rfl
  have S3 : Src K mg "whole_pick" sWhole ["web"] := src_mk X G a3 l3 c3 k3 fun _ _ _ _ _ _ us hl => match us, hl with | [_], _ => rfl
  have S4 : Src K mg "heads_of" sHeads ["web", "pick"] := src_mk X G a4 l4 c4 k4 fun _ _ _ _ _ _ us hl => match us, hl with | [_, _], _ => rfl
  have S5 : Src K mg "clusters_of" sClus ["web", "pick"] := src_mk X G a5 l5 c5 k5 fun _ _ _ _ _ _ us hl => match us, hl with | [_, _], _ => rfl
  have S6 : Src K mg "points_under" sUnder ["heads", "head"] := src_mk X G a6 l6 c6 k6 fun _ _ _ _ _ _ us hl => match us, hl with | [_, _], _ => rfl
  have S7 : Src K mg "is_joined" sJoined ["web"] := src_mk X G a7 l7 c7 k7 fun _ _ _ _ _ _ us hl => match us, hl with | [_], _ => rfl
  have S8 : Src K mg "drawing_of" sDrawing ["turns"] := src_mk X G a8 l8 c8 k8 fun _ _ _ _ _ _ us hl => match us, hl with | [_], _ => rfl
  have S9 : Src K mg "web_of" sWebOf ["drawing"] := src_mk X G a9 l9 c9 k9 fun _ _ _ _ _ _ us hl => match us, hl with | [_], _ => rfl
  have S10 : Src K mg "rounds_of" sRounds ["drawing"] := src_mk X G a10 l10 c10 k10 fun _ _ _ _ _ _ us hl => match us, hl with | [_], _ => rfl
  have S11 : Src K mg "round_from" sRound ["drawing", "start"] := src_mk X G a11 l11 c11 k11 fun _ _ _ _ _ _ us hl => match us, hl with | [_, _], _ => rfl
  have S12 : Src K mg "lands_of" sLands ["drawing"] := src_mk X G a12 l12 c12 k12 fun _ _ _ _ _ _ us hl => match us, hl with | [_], _ => rfl
  have S13 : Src K mg "other_one" sOther ["drawing"] := src_mk X G a13 l13 c13 k13 fun _ _ _ _ _ _ us hl => match us, hl with | [_], _ => rfl
  have S14 : Src K mg "mate_of" sMate ["end"] := src_mk X G a14 l14 c14 k14 fun _ _ _ _ _ _ us hl => match us, hl with | [_], _ => rfl
  have S15 : Src K mg "_law_at" sAt ["_law_script", "_law_k"] := src_mk X G a15 l15 c15 k15 fun _ _ _ _ _ _ us hl => match us, hl with | [_, _], _ => rfl
  have S16 : Src K mg "_law_round" sLRound ["_law_turns", "_law_first", "_law_along"] := src_mk X G a16 l16 c16 k16 fun _ _ _ _ _ _ us hl => match us, hl with | [_, _, _], _ => rfl
  have S17 : Src K mg "_law_rounds" sLRounds ["_law_turns", "_law_along"] := src_mk X G a17 l17 c17 k17 fun _ _ _ _ _ _ us hl => match us, hl with | [_, _], _ => rfl
  have S18 : Src K mg "_law_behind" sBehind ["_law_turns", "_law_end", "_law_new"] := src_mk X G a18 l18 c18 k18 fun _ _ _ _ _ _ us hl => match us, hl with | [_, _, _], _ => rfl
  have S19 : Src K mg "_law_grown" sGrown ["_law_old", "_law_cell"] := src_mk X G a19 l19 c19 k19 fun _ _ _ _ _ _ us hl => match us, hl with | [_, _], _ => rfl
  have S20 : Src K mg "_law_numbered" sNumbered ["_law_turns", "_law_cell"] := src_mk X G a20 l20 c20 k20 fun _ _ _ _ _ _ us hl => match us, hl with | [_, _], _ => rfl
  have S21 : Src K mg "_law_web" sLWeb ["_law_turns"] := src_mk X G a21 l21 c21 k21 fun _ _ _ _ _ _ us hl => match us, hl with | [_], _ => rfl
  have S22 : Src K mg "_law_whole" sLWhole ["_law_numbers"] := src_mk X G a22 l22 c22 k22 fun _ _ _ _ _ _ us hl => match us, hl with | [_], _ => rfl
  have S23 : Src K mg "_law_are_rounds" sAreR ["_law_found", "_law_due"] := src_mk X G a23 l23 c23 k23 fun _ _ _ _ _ _ us hl => match us, hl with | [_, _], _ => rfl
  have S24 : Src K mg "_law_is_web" sIsWeb ["_law_found", "_law_due"] := src_mk X G a24 l24 c24 k24 fun _ _ _ _ _ _ us hl => match us, hl with | [_, _], _ => rfl
  have S25 : Src K mg "_law_right" sRight ["_law_turns", "_law_as_tuple"] := src_mk X G a25 l25 c25 k25 fun _ _ _ _ _ _ us hl => match us, hl with | [_, _], _ => rfl
  have T : Txt K mg := ⟨PySem.W.mg_none_of X G z0, PySem.W.mg_none_of X G z1, PySem.W.mg_none_of X G z2, PySem.W.mg_none_of X G z3, PySem.W.mg_none_of X G z4, PySem.W.mg_none_of X G z5, PySem.W.mg_none_of X G z6, PySem.W.mg_none_of X G z7, PySem.W.mg_none_of X G z8, PySem.W.mg_none_of X G z9, PySem.W.mg_none_of X G z10, PySem.W.mg_none_of X G z11⟩
  refine ⟨PySem.W.fnOf "law" "law" (defArgs sLaw) (defBody sLaw) (defScope sLaw) .none kV26 dc26 pm26 an26 cd26 ct26, fun s v => .of_eq rfl, fun base _ _ => ?_⟩
  have D0 : Def l.prog w K mg base 1 _ _ _ := d_wholeI T S0
  have D1 : Def l.prog w K mg base 2 _ _ _ := d_once T S1 D0
  have D2 : Def l.prog w K mg base 1 _ _ _ := d_lesser S2
  have D3 : Def l.prog w K mg base 1 _ _ _ := d_wp T S3
  have D4 : Def l.prog w K mg base 1 _ _ _ := d_heads T S4
  have D6 : Def l.prog w K mg base 1 _ _ _ := d_under T (PySem.W.mg_none_of X G z13) S6
  have D5 : Def l.prog w K mg base 2 _ _ _ := d_clus T T.set T.sorted S5 D4 D6
  have D7 : Def l.prog w K mg base 3 _ _ _ := d_joined T S7 D5 D3
  have D14 : Def l.prog w K mg base 1 _ _ _ := d_mate S14
  have D11 : Def l.prog w K mg base 1 _ _ _ := d_round S11
  have D10 : Def l.prog w K mg base 2 _ _ _ := d_rounds T S10 D11
  have D13 : Def l.prog w K mg base 2 _ _ _ := d_other T S13 D14
  have D12 : Def l.prog w K mg base 3 _ _ _ := d_lands S12 D10 D13
  have D9 : Def l.prog w K mg base 3 _ _ _ := d_webof T (PySem.W.mg_none_of X G z13) S9 D10 D2
  have D8 : Def l.prog w K mg base 4 _ _ _ := d_drawing T (PySem.W.mg_none_of X G z12) (PySem.W.mg_of X G y0) S8 D1 D9 D7 D12
  have D15 : Def l.prog w K mg base 1 _ _ _ := d_at T S15
  have D16 : Def l.prog w K mg base 1 _ _ _ := d_lround S16
  have D17 : Def l.prog w K mg base 2 _ _ _ := d_lrounds T S17 D16
  have D18 : Def l.prog w K mg base 1 _ _ _ := d_behind S18
  have D19 : Def l.prog w K mg base 2 _ _ _ := d_grown T S19 D18 D16
  have D20 : Def l.prog w K mg base 1 _ _ _ := d_numbered T (PySem.W.mg_none_of X G z13) S20
  have D21 : Def l.prog w K mg base 3 _ _ _ := d_lweb T (PySem.W.mg_none_of X G z13) S21 D17
  have D22 : Def l.prog w K mg base 1 _ _ _ := d_lwhole T S22
  have D23 : Def l.prog w K mg base 2 _ _ _ := d_arer T S23 D22
  have D24 : Def l.prog w K mg base 2 _ _ _ := d_isweb T S24 D22
  have D25 : Def l.prog w K mg base 5 _ _ _ := d_right T S25 D8 D22 D24 D9 D21 D23 D10 D12 D17
  exact ok_law (fun_mk (st := sLaw) l26 c26 k26) T D15 D25 D19 D20 D21
theorem walk {l : PySem.W.OpenLaw} {q : Program} {loose : List Str} {XP : (Str -> Option Value) -> Heap -> Prop} {YP : World -> Heap -> Prop} {d : DefRec} {K : Params -> PySem.W.Frag} (hn : l.most = some 63) (hdf : d.params.defaults = [])
    (hY : ∀ (w : World) (h : Heap), YP w h -> (K w.params).In h)
    (F : ∀ (w : World) (mg : Str -> Option Value) (fa : Addr) (h : Heap), (K w.params).In h -> h.Ns mainGlobals mg -> mg d.name = some (.ref fa) ->
      ∃ fd : FuncData, (∀ (s : Shared) (u : Value), BindsTo s fd ⟨[u], []⟩ [("_law_script", u)]) /\ ∀ base : Heap, (K w.params).In base -> base.Ns mainGlobals mg -> FnOk l.prog w (K w.params) mg base CX0 6 fa fd ["_law_script"] (spLaw (K w.params))) :
    PySem.W.WalkO q loose XP YP l.row.toRowW d [] (fun f vs => PySem.call f vs) :=
  L2.walk_of (n := 63) (k := 6) (x := "_law_script") (CX := fun _ => CX0) (sp := fun w => spLaw (K w.params)) hn (by decide) hdf ⟨rfl, by decide, by decide⟩ hY F (fun _ _ a ns hl _ hS => ⟨a, ns, rfl, hS, hl, fun _ => rfl⟩) fun _ _ _ _ _ z => z
end My
open PySem PySem.W PyProof.Rows
set_option maxRecDepth 100000 in
set_option maxHeartbeats 0 in
theorem PySem.Challenge.cw_manycounts_k84_drawings_and_lands_holds : PySem.Challenge.rw_manycounts_k84_drawings_and_lands.Holds := by
  w_on; o_law; k_head; (case hw => w_witness2)
  k_fill
  refine My.walk (l := PySem.Challenge.rw_manycounts_k84_drawings_and_lands) rfl rfl (fun w h Y => PySem.W.kIn_of Y) ?F
  case F =>
    intro w mg fa h KX G hmg
    refine' My.all_mk KX G hmg ?a0 ?l0 ?c0 ?k0 ?a1 ?l1 ?c1 ?k1 ?a2 ?l2 ?c2 ?k2 ?a3 ?l3 ?c3 ?k3 ?a4 ?l4 ?c4 ?k4 ?a5 ?l5 ?c5 ?k5 ?a6 ?l6 ?c6 ?k6 ?a7 ?l7 ?c7 ?k7 ?a8 ?l8 ?c8 ?k8 ?a9 ?l9 ?c9 ?k9 ?a10 ?l10 ?c10 ?k10 ?a11 ?l11 ?c11 ?k11 ?a12 ?l12 ?c12 ?k12 ?a13 ?l13 ?c13 ?k13 ?a14 ?l14 ?c14 ?k14 ?a15 ?l15 ?c15 ?k15 ?a16 ?l16 ?c16 ?k16 ?a17 ?l17 ?c17 ?k17 ?a18 ?l18 ?c18 ?k18 ?a19 ?l19 ?c19 ?k19 ?a20 ?l20 ?c20 ?k20 ?a21 ?l21 ?c21 ?k21 ?a22 ?l22 ?c22 ?k22 ?a23 ?l23 ?c23 ?k23 ?a24 ?l24 ?c24 ?k24 ?a25 ?l25 ?c25 ?k25 ?a26 ?l26 ?c26 ?k26 ?z0 ?z1 ?z2 ?z3 ?z4 ?z5 ?z6 ?z7 ?z8 ?z9 ?z10 ?z11 ?z12 ?z13 ?y0
    (case a0 => k_is); (case l0 => k_is); (case c0 => k_is); (case k0 => k_is)
    (case a1 => k_is); (case l1 => k_is); (case c1 => k_is); (case k1 => k_is)
    (case a2 => k_is); (case l2 => k_is); (case c2 => k_is); (case k2 => k_is)
    (case a3 => k_is); (case l3 => k_is); (case c3 => k_is); (case k3 => k_is)
    (case a4 => k_is); (case l4 => k_is); (case c4 => k_is); (case k4 => k_is)
    (case a5 => k_is); (case l5 => k_is); (case c5 => k_is); (case k5 => k_is)
    (case a6 => k_is); (case l6 => k_is); (case c6 => k_is); (case k6 => k_is)
    (case a7 => k_is); (case l7 => k_is); (case c7 => k_is); (case k7 => k_is)
    (case a8 => k_is); (case l8 => k_is); (case c8 => k_is); (case k8 => k_is)
    (case a9 => k_is); (case l9 => k_is); (case c9 => k_is); (case k9 => k_is)
    (case a10 => k_is); (case l10 => k_is); (case c10 => k_is); (case k10 => k_is)
    (case a11 => k_is); (case l11 => k_is); (case c11 => k_is); (case k11 => k_is)
    (case a12 => k_is); (case l12 => k_is); (case c12 => k_is); (case k12 => k_is)
    (case a13 => k_is); (case l13 => k_is); (case c13 => k_is); (case k13 => k_is)
    (case a14 => k_is); (case l14 => k_is); (case c14 => k_is); (case k14 => k_is)
    (case a15 => k_is); (case l15 => k_is); (case c15 => k_is); (case k15 => k_is)
    (case a16 => k_is); (case l16 => k_is); (case c16 => k_is); (case k16 => k_is)
    (case a17 => k_is); (case l17 => k_is); (case c17 => k_is); (case k17 => k_is)
    (case a18 => k_is); (case l18 => k_is); (case c18 => k_is); (case k18 => k_is)
    (case a19 => k_is); (case l19 => k_is); (case c19 => k_is); (case k19 => k_is)
    (case a20 => k_is); (case l20 => k_is); (case c20 => k_is); (case k20 => k_is)
    (case a21 => k_is); (case l21 => k_is); (case c21 => k_is); (case k21 => k_is)
    (case a22 => k_is); (case l22 => k_is); (case c22 => k_is); (case k22 => k_is)
    (case a23 => k_is); (case l23 => k_is); (case c23 => k_is); (case k23 => k_is)
    (case a24 => k_is); (case l24 => k_is); (case c24 => k_is); (case k24 => k_is)
    (case a25 => k_is); (case l25 => k_is); (case c25 => k_is); (case k25 => k_is)
    (case a26 => k_is); (case l26 => k_is); (case c26 => k_is); (case k26 => k_is)
    (case z0 => k_is); (case z1 => k_is); (case z2 => k_is); (case z3 => k_is)
    (case z4 => k_is); (case z5 => k_is); (case z6 => k_is); (case z7 => k_is)
    (case z8 => k_is); (case z9 => k_is); (case z10 => k_is); (case z11 => k_is)
    (case z12 => k_is); (case z13 => k_is); (case y0 => k_is)
