import PyProof.Rows.All
import Wide.All
import OpenK.AllK
import Wide.FinOn
import Lean
import PyProof.EqAt
import PyProof.EqKinds
import PyProof.TupleCall
import KE.KIsAll
import PyProof.DictItems
import KE.KPairComp
import KE.KSortTup
import KE.IntBitsLaws
import KE.KRevIter
import PySem.Challenge.RW_manycounts_k28_whole_one_tuple
set_option Elab.async false
set_option linter.all false
set_option maxRecDepth 100000
set_option maxHeartbeats 4000000
namespace L2
open PySem PySem.Spec PyProof.Rows
abbrev Key := Sum Int Str
def keyIs : Key -> Value -> Bool
  | .inl k, v => Value.isInt k v
  | .inr x, v => Value.isStrOf x v
def keyH (w : World) : Key -> Int
  | .inl k => hashInt k
  | .inr x => hashStr w x
theorem keyIs_shape : ∀ {k : Key} {v : Value}, keyIs k v = true -> (∃ i t, k = Sum.inl i /\ v = Value.int i t) \/ (∃ x t, k = Sum.inr x /\ v = Value.str x t)
  | .inl i, v, h => by
    obtain ⟨t, e⟩ := Value.isInt_shape (k := i) (v := v) h
    exact .inl ⟨i, t, rfl, e⟩
  | .inr x, v, h => by
    obtain ⟨t, e⟩ := Value.isStrOf_shape (x := x) (v := v) h
    exact .inr ⟨x, t, rfl, e⟩
theorem keyIs_int (i : Int) (t : Tok) : keyIs (.inl i) (.int i t) = true := by simp [keyIs, Value.isInt]
theorem keyIs_str (x : Str) (t : Tok) : keyIs (.inr x) (.str x t) = true := by simp [keyIs, Value.isStrOf]
theorem key_ll (a b : Int) : decide ((Sum.inl a : Key) = Sum.inl b) = (a == b) := by
  by_cases e : a = b
  · subst e; simp
  · have h : ¬ (Sum.inl a : Key) = Sum.inl b := fun q => e (Sum.inl.inj q)
    rw [decide_eq_false h]
    exact (beq_eq_false_iff_ne.mpr e).symm
theorem key_rr (a b : Str) : decide ((Sum.inr a : Key) = Sum.inr b) = decide (a = b) := by
  by_cases e : a = b
  · subst e; simp
  · have h : ¬ (Sum.inr a : Key) = Sum.inr b := fun q => e (Sum.inr.inj q)
    rw [decide_eq_false h, decide_eq_false e]
theorem key_lr (a : Int) (b : Str) : decide ((Sum.inl a : Key) = Sum.inr b) = false := decide_eq_false (fun q => nomatch q)
theorem key_rl (a : Str) (b : Int) : decide ((Sum.inr a : Key) = Sum.inl b) = false := decide_eq_false (fun q => nomatch q)
def mixKind (prog : Program) (w : World) : PySem.KeyKind prog w Key where
  is := keyIs
  hash := keyH w
  inj := fun v a b ha hb => by
    rcases keyIs_shape ha with ⟨i, t, rfl, rfl⟩ | ⟨x, t, rfl, rfl⟩
    · rcases keyIs_shape hb with ⟨j, u, rfl, e⟩ | ⟨y, u, rfl, e⟩
      · injection e with e1 _; rw [e1]
      · exact nomatch e
    · rcases keyIs_shape hb with ⟨j, u, rfl, e⟩ | ⟨y, u, rfl, e⟩
      · exact nomatch e
      · injection e with e1 _; rw [e1]
  byValue := fun k v h => by
    rcases keyIs_shape h with ⟨i, t, rfl, rfl⟩ | ⟨x, t, rfl, rfl⟩ <;> rfl
  pyHash := fun hv h => by
    rcases keyIs_shape hv with ⟨i, t, rfl, rfl⟩ | ⟨x, t, rfl, rfl⟩
    · exact wpAny_pyHash_int h
    · exact wpAny_pyHash_str h
  eqBool := fun hu hv h => by
    rcases keyIs_shape hu with ⟨i, t, rfl, rfl⟩ | ⟨x, t, rfl, rfl⟩
    · rcases keyIs_shape hv with ⟨j, u, rfl, rfl⟩ | ⟨y, u, rfl, rfl⟩
      · rw [key_ll] at h; exact wpAny_eqBool_int h
      · rw [key_lr] at h; exact SeqAt.EqAt.int_str i t y u _ _ _ _ h
    · rcases keyIs_shape hv with ⟨j, u, rfl, rfl⟩ | ⟨y, u, rfl, rfl⟩
      · rw [key_rl] at h; exact SeqAt.EqAt.str_int x t j u _ _ _ _ h
      · rw [key_rr] at h; exact wpAny_eqBool_str h
  «strs» := fun k x t v h => by
    rcases keyIs_shape h with ⟨i, u, rfl, e⟩ | ⟨y, u, rfl, e⟩
    · exact nomatch e
    · injection e with e1 _
      subst e1
      cases v <;> rfl
theorem mixKind_int (prog : Program) (w : World) (i : Int) (t : Tok) : (mixKind prog w).is (.inl i) (.int i t) = true := keyIs_int i t
theorem mixKind_str (prog : Program) (w : World) (x : Str) (t : Tok) : (mixKind prog w).is (.inr x) (.str x t) = true := keyIs_str x t
inductive V where
  | non | bl (b : Bool) | int (i : Int) | str (x : Str) | byt (b : Array UInt8) | flt (b : UInt64) | ref (a : Addr) | ty (n : String)
  deriving DecidableEq
def RelV : V -> Value -> Prop
  | .non, u => u = Value.none
  | .bl b, u => u = Value.bool b
  | .int i, u => ∃ t, u = Value.int i t
  | .str x, u => ∃ t, u = Value.str x t
  | .byt b, u => ∃ t, u = Value.bytes b t
  | .flt b, u => ∃ t, u = Value.float b t
  | .ref a, u => u = Value.ref a
  | .ty n, u => u = Value.type n
abbrev Vals : List V -> List Value -> Prop := Paired RelV
theorem Vals.length {xs : List V} {us : List Value} (r : Vals xs us) : xs.length = us.length := Paired.length r
theorem Vals.get : ∀ {xs : List V} {us : List Value} {i : Nat} {x : V}, Vals xs us -> xs[i]? = some x -> ∃ u, us[i]? = some u /\ RelV x u
  | _, _, _, _, .nil, e => by simp at e
  | _, _, 0, _, .cons r _, e => by simp at e; subst e; exact ⟨_, rfl, r⟩
  | _, _, i + 1, x, .cons _ t, e => by
    obtain ⟨u, h1, h2⟩ := Vals.get (i := i) (x := x) t (by simpa using e)
    exact ⟨u, by simpa using h1, h2⟩
theorem Vals.set {x : V} {u : Value} (r : RelV x u) : ∀ {xs : List V} {us : List Value} (i : Nat), Vals xs us -> Vals (xs.set i x) (us.set i u)
  | _, _, _, .nil => .nil
  | _, _, 0, .cons _ t => .cons r t
  | _, _, i + 1, .cons q t => .cons q (Vals.set r i t)
theorem Vals.append : ∀ {xs ys : List V} {us ws : List Value}, Vals xs us -> Vals ys ws -> Vals (xs ++ ys) (us ++ ws)
  | _, _, _, _, .nil, s => s
  | _, _, _, _, .cons r t, s => .cons r (Vals.append t s)
theorem Vals.take : ∀ {xs : List V} {us : List Value} (n : Nat), Vals xs us -> Vals (xs.take n) (us.take n)
  | _, _, 0, _ => .nil
  | _, _, _ + 1, .nil => .nil
  | _, _, n + 1, .cons r t => .cons r (Vals.take n t)
theorem Vals.drop : ∀ {xs : List V} {us : List Value} (n : Nat), Vals xs us -> Vals (xs.drop n) (us.drop n)
  | _, _, 0, r => r
  | _, _, _ + 1, .nil => .nil
  | _, _, n + 1, .cons _ t => Vals.drop n t
def RelO : Option V -> Option Value -> Prop
  | some v, some u => RelV v u
  | none, none => True
  | _, _ => False
def KV {κ : Type} : List (κ × V) -> List (κ × Value) -> Prop := Paired fun (p : κ × V) (q : κ × Value) => p.1 = q.1 /\ RelV p.2 q.2
def kV : Key -> V
  | .inl i => .int i
  | .inr x => .str x
inductive HO where
    | lst (xs : List V)
    | tup (xs : List V)
    | dK (kvs : List (Key × V)) | dT (kvs : List (List Key × V))
    | set (S : Int -> Bool) (n : Nat)
    | ins (C dx : Addr) (fs : List (Str × V))
    | own (x : Addr)
    | xd (fs : List (Str × V))
    | met (f x : Addr)
    | rng (lo hi : Int)
    | frz (o : Obj) (u : HO)
    | tbl (ps : Array Value)
    | ext (φ : Heap -> Prop)
abbrev Hp := Addr -> Option HO
def upd (H : Hp) (a : Addr) (o : HO) : Hp := fun b => if b = a then some o else H b
theorem upd_same {H : Hp} {a : Addr} {o : HO} : upd H a o a = some o := by unfold upd; rw [if_pos rfl]
theorem upd_ne {H : Hp} {a b : Addr} {o : HO} (h : b ≠ a) : upd H a o b = H b := by unfold upd; rw [if_neg h]
theorem ne_of {H : Hp} {a b : Addr} {o u : HO} (h : H a = some o) (h' : H b = some u) (d : o ≠ u) : a ≠ b := by
  intro e; subst e; rw [h] at h'; exact d (Option.some.inj h')
theorem ne_of_none {H : Hp} {a b : Addr} {o : HO} (h : H a = some o) (h' : H b = none) : a ≠ b := by
  intro e; subst e; rw [h] at h'; cases h'
section
variable (P : Program) (w : World)
def ObjOk (H : Hp) (h : Heap) (a : Addr) : HO -> Prop
  | .lst xs => xs.length <= sizeLine /\ ∃ (its : List Value) (n : Nat), Vals xs its /\ h.get? a = some { cls := .type "list", data := .seq its.toArray n }
  | .tup xs => xs.length <= sizeLine /\ ∃ its : List Value, Vals xs its /\ IsTup h a its.toArray
  | .dK kvs => kvs.length <= sizeLine /\ (a == sysModules) = false /\ ∃ vs, KV kvs vs /\ h.DictOf (mixKind P w) a vs
  | .dT kvs => kvs.length <= sizeLine /\ (a == sysModules) = false /\ ∃ xs : List (List Key × Addr × Value),
      Paired (fun (p : List Key × V) (q : List Key × Addr × Value) => p.1 = q.1 /\ H q.2.1 = some (.tup (p.1.map kV)) /\ RelV p.2 q.2.2) kvs xs /\
      ∃ o es ep, h.get? a = some o /\ o.ExactDict /\ o.data = .dict es ep /\ es.toList = xs.map (entryOfKey (tupleKind (mixKind P w))) /\ (xs.map (·.1)).Nodup
  | .set S n => h.SetOf (intKind P w) a S n
  | .ins C dx fs => H dx = some (.own a) /\ fs.length <= 1000 /\ dx ≠ a /\ h.get? a = some (PySem.W.instObj C dx) /\
      ∃ mA, h.Ns1 dx mA /\ (∀ f, RelO (fs.lookup f) (mA f)) /\ PySem.Within mA (fs.map (·.1))
  | .own _ => ∃ o, h.get? a = some o
  | .xd fs => ∃ mA, h.Ns1 a mA /\ ∀ f, RelO (fs.lookup f) (mA f)
  | .rng lo hi => ∃ t u v, h.get? a = some { cls := .type "range", data := .fields #[.int lo t, .int hi u, .int 1 v] }
  | .frz o u => h.get? a = some o /\ ObjOk H h a u
  | .tbl ps => h.get? a = some { cls := .none, data := .fields ps }
  | .met f x => h.get? a = some (PySem.W.methodObj (.ref f) (.ref x))
  | .ext φ => φ h /\ (∃ o, h.get? a = some o) /\ ∀ h1 h2 : Heap, φ h1 -> (∀ o, h1.get? a = some o -> h2.get? a = some o) -> φ h2
def HOk (H : Hp) (h : Heap) : Prop := ∀ a o, H a = some o -> ObjOk P w H h a o
end
section
variable {P : Program} {w : World} {H H' : Hp} {h h' : Heap} {a : Addr} {o : HO}
theorem ObjOk.lt (x : ObjOk P w H h a o) : a < h.objs.size := by
  cases o with
  | lst xs => obtain ⟨_, _, _, _, e⟩ := x; exact Heap.lt_size e
  | tup xs => obtain ⟨_, _, _, p⟩ := x; exact p.lt
  | dK kvs => obtain ⟨_, _, _, _, o, _, _, e, _⟩ := x; exact Heap.lt_size e
  | dT kvs => obtain ⟨_, _, _, _, o, _, _, e, _⟩ := x; exact Heap.lt_size e
  | set S n => obtain ⟨o, _, _, _, e, _⟩ := x; exact Heap.lt_size e
  | ins C dx fs => obtain ⟨_, _, _, e, _⟩ := x; exact Heap.lt_size e
  | own y => obtain ⟨_, e⟩ := x; exact Heap.lt_size e
  | xd fs => obtain ⟨_, ⟨_, _, _, e, _⟩, _⟩ := x; exact Heap.lt_size e
  | rng lo hi => obtain ⟨_, _, _, e⟩ := x; exact Heap.lt_size e
  | frz ob u => obtain ⟨e, _⟩ := x; exact Heap.lt_size e
  | tbl ps => exact Heap.lt_size (show h.get? a = some _ from x)
  | met f y => exact Heap.lt_size (show h.get? a = some _ from x)
  | ext φ => obtain ⟨_, ⟨_, e⟩, _⟩ := x; exact Heap.lt_size e
theorem Paired.mapP {α β : Type} {F G : α -> β -> Prop} : ∀ {l₁ : List α} {l₂ : List β}, Paired F l₁ l₂ -> (∀ a b, F a b -> G a b) -> Paired G l₁ l₂
  | _, _, .nil, _ => .nil
  | _, _, .cons r t, f => .cons (f _ _ r) (Paired.mapP t f)
theorem ObjOk.stay (x : ObjOk P w H h a o) (k : ∀ b u, (b = a \/ H b = some (.own a)) -> h.get? b = some u -> h'.get? b = some u)
    (ho : ∀ b, H b = some (.own a) -> H' b = some (.own a)) (ht : ∀ b xs, H b = some (.tup xs) -> H' b = some (.tup xs)) : ObjOk P w H' h' a o := by
  induction o with
  | lst xs => obtain ⟨z, its, n, r, e⟩ := x; exact ⟨z, its, n, r, k _ _ (.inl rfl) e⟩
  | tup xs => obtain ⟨z, its, r, ob, e, c⟩ := x; exact ⟨z, its, r, ob, k _ _ (.inl rfl) e, c⟩
  | dK kvs => obtain ⟨z, y, vs, r, ob, es, ep, e, c⟩ := x; exact ⟨z, y, vs, r, ob, es, ep, k _ _ (.inl rfl) e, c⟩
  | dT kvs =>
    obtain ⟨z, y, xs, r, ob, es, ep, e, c⟩ := x
    exact ⟨z, y, xs, Paired.mapP r fun p q z => ⟨z.1, ht _ _ z.2.1, z.2.2⟩, ob, es, ep, k _ _ (.inl rfl) e, c⟩
  | set S n => obtain ⟨ob, es, ep, t, e, c⟩ := x; exact ⟨ob, es, ep, t, k _ _ (.inl rfl) e, c⟩
  | ins C dx fs =>
    obtain ⟨d, z, ne, e, mA, ⟨od, es, ep, e2, c⟩, r⟩ := x
    exact ⟨ho _ d, z, ne, k _ _ (.inl rfl) e, mA, ⟨od, es, ep, k _ _ (.inr d) e2, c⟩, r⟩
  | own y => obtain ⟨ob, e⟩ := x; exact ⟨ob, k _ _ (.inl rfl) e⟩
  | xd fs => obtain ⟨mA, ⟨od, es, ep, e, c⟩, r⟩ := x; exact ⟨mA, ⟨od, es, ep, k _ _ (.inl rfl) e, c⟩, r⟩
  | rng lo hi => obtain ⟨t, u, v, e⟩ := x; exact ⟨t, u, v, k _ _ (.inl rfl) e⟩
  | frz ob u ih => obtain ⟨e, q⟩ := x; exact ⟨k _ _ (.inl rfl) e, ih q⟩
  | tbl ps =>
    have e : h.get? a = some { cls := .none, data := .fields ps } := x
    show h'.get? a = some { cls := .none, data := .fields ps }
    exact k a _ (.inl rfl) e
  | met f y =>
    have e : h.get? a = some (PySem.W.methodObj (.ref f) (.ref y)) := x
    show h'.get? a = some (PySem.W.methodObj (.ref f) (.ref y))
    exact k a _ (.inl rfl) e
  | ext φ => obtain ⟨p, ⟨o, e⟩, st⟩ := x; exact ⟨st _ _ p fun o q => k _ _ (.inl rfl) q, ⟨o, k _ _ (.inl rfl) e⟩, st⟩
theorem HOk.lt (x : HOk P w H h) (e : H a = some o) : a < h.objs.size := (x a o e).lt
theorem HOk.fresh (x : HOk P w H h) (e : h.objs.size <= a) : H a = none := by
  cases q : H a with
  | none => rfl
  | some u => exact absurd (Nat.lt_of_lt_of_le (x.lt q) e) (Nat.lt_irrefl _)
theorem HOk.kept (x : HOk P w H h) (k : ∀ b u, h.get? b = some u -> h'.get? b = some u) : HOk P w H h' := fun a o e =>
  (x a o e).stay (fun b u _ q => k b u q) (fun _ q => q) fun _ _ q => q
theorem HOk.laid (x : HOk P w H h) (k : ∀ b u, h.get? b = some u -> h'.get? b = some u) (hp : h.objs.size <= a) (new : ObjOk P w (upd H a o) h' a o) : HOk P w (upd H a o) h' := fun b u e => by
  have hn := x.fresh hp
  by_cases hb : b = a
  · subst hb; rw [upd_same] at e; cases e; exact new
  · rw [upd_ne hb] at e
    exact (x b u e).stay (fun c v _ q => k c v q) (fun c q => by rw [upd_ne (ne_of_none q hn)]; exact q) fun c xs q => by rw [upd_ne (ne_of_none q hn)]; exact q
end
def Rd (H : Hp) (a : Addr) (u : HO) : Prop := H a = some u \/ ∃ o, H a = some (.frz o u)
theorem Rd.ok {P : Program} {w : World} {H : Hp} {h : Heap} {a : Addr} {u : HO} (r : Rd H a u) (x : HOk P w H h) : ObjOk P w H h a u := by
  rcases r with r | ⟨o, r⟩
  · exact x a u r
  · obtain ⟨_, q⟩ := x a _ r
    exact q
def Mut : Option HO -> Prop
  | some (.lst _) => True
  | some (.dK _) => True
  | some (.dT _) => True
  | some (.set _ _) => True
  | some (.ins _ _ _) => True
  | some (.ext _) => True
  | _ => False
section
variable {P : Program} {w : World} {H : Hp} {h h' : Heap} {x e : Addr} {o' : HO}
theorem HOk.write (ok : HOk P w H h) (mu : Mut (H x)) (he : e = x \/ H e = some (.own x)) (k : ∀ b u, b ≠ e -> h.get? b = some u -> h'.get? b = some u) (heo : ∃ u, h'.get? e = some u)
    (new : ObjOk P w (upd H x o') h' x o') : HOk P w (upd H x o') h' := fun b u q => by
  have nown : ∀ c y, H c = some (.own y) -> c ≠ x := fun c y r z => by subst z; rw [r] at mu; exact mu
  have ntup : ∀ c xs, H c = some (.tup xs) -> c ≠ x := fun c xs r z => by subst z; rw [r] at mu; exact mu
  by_cases hb : b = x
  · subst hb; rw [upd_same] at q; cases q; exact new
  · rw [upd_ne hb] at q
    by_cases hbe : b = e
    · have q' : H b = some (.own x) := by
        rcases he with z | z
        · exact absurd (hbe.trans z) hb
        · rw [hbe]; exact z
      rw [q] at q'; cases q'
      obtain ⟨v, hv⟩ := heo
      exact ⟨v, by rw [hbe]; exact hv⟩
    · refine (ok b u q).stay (fun c v hc r => k c v ?_ r) (fun c r => by rw [upd_ne (nown c b r)]; exact r) fun c xs r => by rw [upd_ne (ntup c xs r)]; exact r
      rcases hc with rfl | hc
      · exact hbe
      · rintro rfl
        rcases he with z | z
        · exact nown c b hc z
        · rw [hc] at z; cases z; exact hb rfl
end
structure Un (fs ex : List Addr) (H H' : Hp) (h h' : Heap) : Prop where
  keep : ∀ b o, h.get? b = some o -> H b = none -> b ∉ fs -> b ∉ ex -> h'.get? b = some o
  slot : ∀ b o, h.get? b = some o -> H b = none -> b ∈ fs -> b ∉ ex -> ∃ sl, h'.get? b = some { o with slots := sl }
  free : ∀ b o, h.get? b = some o -> H b = none -> b ∉ ex -> H' b = none
  there : ∀ b o, h.get? b = some o -> b ∉ ex -> ∃ o', h'.get? b = some o'
  tups : ∀ b xs, H b = some (.tup xs) -> H' b = some (.tup xs)
  frzs : ∀ b o u, H b = some (.frz o u) -> H' b = some (.frz o u)
  tbls : ∀ b ps, H b = some (.tbl ps) -> ∃ more, H' b = some (.tbl (ps ++ more))
section
variable {fs fs' ex ex' : List Addr} {H H1 H2 : Hp} {h h1 h2 h' : Heap} {a x e : Addr} {o : HO}
theorem Un.any (u : Un fs ex H H1 h h1) {b : Addr} {ob : Obj} (q : h.get? b = some ob) (n : H b = none) (hx : b ∉ ex) : ∃ sl, h1.get? b = some { ob with slots := sl } := by
  by_cases hb : b ∈ fs
  · exact u.slot b ob q n hb hx
  · exact ⟨ob.slots, u.keep b ob q n hb hx⟩
theorem Un.kept (k : ∀ b u, h.get? b = some u -> h'.get? b = some u) : Un fs ex H H h h' :=
  ⟨fun b ob q _ _ _ => k b ob q, fun b ob q _ _ _ => ⟨ob.slots, k b ob q⟩, fun _ _ _ n _ => n, fun b ob q _ => ⟨ob, k b ob q⟩, fun _ _ q => q, fun _ _ _ q => q, fun _ ps q => ⟨#[], by rw [q]; simp⟩⟩
theorem Un.refl : Un fs ex H H h h := Un.kept fun _ _ q => q
theorem Un.laid (k : ∀ b u, h.get? b = some u -> h'.get? b = some u) (hp : h.objs.size <= a) (hn : H a = none) : Un fs ex H (upd H a o) h h' where
  keep := fun b u q _ _ _ => k b u q
  slot := fun b u q _ _ _ => ⟨u.slots, k b u q⟩
  free := fun b u q n _ => by rw [upd_ne (Nat.ne_of_lt (Nat.lt_of_lt_of_le (Heap.lt_size q) hp))]; exact n
  there := fun b u q _ => ⟨u, k b u q⟩
  tups := fun b xs q => by rw [upd_ne (ne_of_none q hn)]; exact q
  frzs := fun b u xs q => by rw [upd_ne (ne_of_none q hn)]; exact q
  tbls := fun b ps q => ⟨#[], by rw [upd_ne (ne_of_none q hn), q]; simp⟩
theorem Un.write (mu : Mut (H x)) (he : e = x \/ H e = some (.own x)) (k : ∀ b u, b ≠ e -> h.get? b = some u -> h'.get? b = some u) (heo : ∃ u, h'.get? e = some u) : Un fs ex H (upd H x o) h h' := by
  have hx : ∀ b, H b = none -> b ≠ x := fun b n z => by subst z; rw [n] at mu; exact mu
  have hb : ∀ b, H b = none -> b ≠ e := fun b n z => by
    subst z
    rcases he with r | r
    · exact hx b n r
    · rw [n] at r; cases r
  have hm : ∀ b u, H b = some u -> ¬ Mut (some u) -> b ≠ x := fun b u q nm z => by subst z; rw [q] at mu; exact nm mu
  refine ⟨fun b u q n _ _ => k b u (hb b n) q, fun b u q n _ _ => ⟨u.slots, k b u (hb b n) q⟩, fun b u q n _ => by rw [upd_ne (hx b n)]; exact n, fun b u q _ => ?_,
    fun b xs q => by rw [upd_ne (hm b _ q fun z => z)]; exact q, fun b u xs q => by rw [upd_ne (hm b _ q fun z => z)]; exact q, fun b ps q => ⟨#[], by rw [upd_ne (hm b _ q fun z => z), q]; simp⟩⟩
  by_cases hbe : b = e
  · subst hbe; exact heo
  · exact ⟨u, k b u hbe q⟩
end
def trk (h : Heap) (H : Hp) : List Addr := (List.range h.objs.size).filter fun a => (H a).isSome
def hidT (h : Heap) (H : Hp) : Heap := PySem.W.hideAll h (trk h H)
theorem hidT_size (h : Heap) (H : Hp) : (hidT h H).objs.size = h.objs.size := PySem.W.hideAll_size _ _
theorem hidT_get {h : Heap} {H : Hp} {b : Addr} {o : Obj} (e : h.get? b = some o) (n : H b = none) : (hidT h H).get? b = some o :=
  PySem.W.hideAll_get _ e fun hm => by
    have q : (H b).isSome = true := (List.mem_filter.mp hm).2
    rw [n] at q; simp at q
theorem of_hidT {h : Heap} {H : Hp} {b : Addr} {o : Obj} (e : (hidT h H).get? b = some o) : h.get? b = some o /\ H b = none := by
  have e' : h.get? b = some o := PySem.W.of_hideAll (trk h H) e
  refine ⟨e', ?_⟩
  cases q : H b with
  | none => rfl
  | some x =>
    have hm : b ∈ trk h H := List.mem_filter.mpr ⟨List.mem_range.mpr (Heap.lt_size e'), by simp [q]⟩
    have z : (hidT h H).get? b = none := PySem.W.hideAll_none (trk h H) hm
    rw [z] at e; cases e
def allNews (g h : Heap) (L : Addr) : List (Addr × Obj) := (List.range h.objs.size).filterMap fun a => if a = L \/ (g.get? a).isSome = true then none else (h.get? a).map fun o => (a, o)
def rest (g h : Heap) (L d : Addr) : List (Addr × Obj) := (allNews g h L).filter fun p => decide (p.1 ≠ d)
structure Mod (K : PySem.W.Frag) (mg : Str -> Option Value) (base : Heap) : Prop where
  kin : K.In base
  glob : base.Ns mainGlobals mg
  blt : ∃ mb, base.Ns builtinsNs mb /\ ∀ x : Str, x ≠ "__name__" -> mb x = bootBuiltins x
  nolimit : base.NoLimit
structure Cx where
  prog : Program
  w : World
  K : PySem.W.Frag
  mg : Str -> Option Value
  base : Heap
  A : Around
  N : List Str
  s₀ : Shared
  H₀ : Hp
  env : Env
  outer : List Env
  stack : List Env
  ex : List Addr
  fn : Str -> Bool
  calm : Bool
  pn : List (Addr × Obj)
  xe : Value -> Shared -> Prop
def frs (l : List Env) : List Addr := l.filterMap (·.frame)
abbrev Cx.fs (X : Cx) : List Addr := frs X.outer
def Vis (sc : Scope) (x : Str) : Prop := sc.names.lookup x = some .local \/ sc.names.lookup x = some .cell \/ sc.names.lookup x = some .free
def Loc (sc : Scope) (x : Str) : Prop := sc.names.lookup x = some .local \/ sc.names.lookup x = some .cell
def Look (env : Env) (h : Heap) (m : Str -> Option Value) (x : Str) (u : Value) : Prop :=
  (env.kindOf x = some .local /\ m x = some u) \/ ((env.kindOf x = some .cell \/ env.kindOf x = some .free) /\ ∃ c, env.cells.lookup x = some c /\ h.IsCell c (some u))
structure Cx.Ok (X : Cx) : Prop where
  mod : Mod X.K X.mg X.base
  kind : X.env.scope.kind = .function
  glob : X.env.globals = mainGlobals
  blt : X.env.builtins = builtinsNs
  above : X.s₀.heap.objs.size <= X.env.locals
  inj : ∀ x y c, X.env.cells.lookup x = some c -> X.env.cells.lookup y = some c -> x = y
  has : ∀ x, (X.env.kindOf x = some .cell \/ X.env.kindOf x = some .free) -> ∃ c, X.env.cells.lookup x = some c
  cab : ∀ x c, X.fn x = true -> X.env.cells.lookup x = some c -> X.s₀.heap.objs.size <= c
  hd : X.calm = true -> X.A.handled = none
  frames : X.A.frames = some X.stack
  stk : X.stack = X.outer \/ (X.stack = X.env :: X.outer /\ X.env.frame = some X.env.locals)
  exf : ∀ b ∈ X.ex, b ≠ X.env.locals /\ ∀ x c, X.env.cells.lookup x = some c -> c ≠ b
  bs : ∀ b o, X.base.get? b = some o -> X.s₀.heap.get? b = some o /\ X.H₀ b = none
  bsz : X.base.objs.size <= X.s₀.heap.objs.size
  noex : ∀ b o, X.base.get? b = some o -> b ∉ X.ex
  exfs : ∀ b ∈ X.ex, b ∉ X.fs
  funs : X.s₀.heap.FunFrames X.base X.outer
  frf : ∀ b ∈ X.fs, X.H₀ b = none
structure Inv (X : Cx) (pins : List (Addr × Obj)) (σ : List (Option V)) (H : Hp) (s : Shared) : Prop where
  ok : X.Ok
  os : s.os = X.s₀.os
  bare : AllBare s.gens
  base : Un X.fs X.ex X.H₀ H X.s₀.heap s.heap
  loc : ∃ m, s.heap.Ns X.env.locals m /\ ∀ (i : Nat) (x : Str) (v : V), X.N[i]? = some x -> σ[i]? = some (some v) -> Vis X.env.scope x -> ∃ u, RelV v u /\ Look X.env s.heap m x u
  cell : ∀ x c, X.env.cells.lookup x = some c -> ∃ v, s.heap.IsCell c v
  free : H X.env.locals = none
  freeC : ∀ x c, X.env.cells.lookup x = some c -> H c = none
  pin : ∀ p ∈ X.pn ++ pins, s.heap.get? p.1 = some p.2 /\ H p.1 = none /\ p.1 ≠ X.env.locals /\ p.1 ∉ X.fs /\ ∀ v, p.2.data ≠ .cell v
  hok : HOk X.prog X.w H s.heap
  len : σ.length = X.N.length
section
variable {X : Cx} {pins : List (Addr × Obj)} {σ : List (Option V)} {H H' : Hp} {s : Shared} {h' : Heap}
theorem Cx.Ok.nofr (ok : X.Ok) {b : Addr} {o : Obj} (e : X.base.get? b = some o) : b ∉ X.fs := fun hb => by
  have := (ok.funs.mem hb).1
  rw [e] at this; cases this
theorem Inv.bs (I : Inv X pins σ H s) : ∀ b o, X.base.get? b = some o -> s.heap.get? b = some o /\ H b = none := fun b o e =>
  ⟨I.base.keep b o (I.ok.bs b o e).1 (I.ok.bs b o e).2 (I.ok.nofr e) (I.ok.noex b o e), I.base.free b o (I.ok.bs b o e).1 (I.ok.bs b o e).2 (I.ok.noex b o e)⟩
theorem Inv.bk (I : Inv X pins σ H s) : ∀ b o, X.base.get? b = some o -> s.heap.get? b = some o := fun b o e => (I.bs b o e).1
theorem Inv.mod (I : Inv X pins σ H s) : Mod X.K X.mg X.base := I.ok.mod
theorem Inv.kIn (I : Inv X pins σ H s) : X.K.In s.heap := I.ok.mod.kin.keeps I.bk
theorem Inv.lt (I : Inv X pins σ H s) : X.env.locals < s.heap.objs.size := let ⟨_, hn, _⟩ := I.loc; hn.lt
theorem Inv.sz (I : Inv X pins σ H s) : X.s₀.heap.objs.size <= s.heap.objs.size := Nat.le_trans I.ok.above (Nat.le_of_lt I.lt)
theorem Inv.nofs (I : Inv X pins σ H s) {a : Addr} (h : s.heap.objs.size <= a) : a ∉ X.fs := fun hb => by
  obtain ⟨_, o, ho, _⟩ := I.ok.funs.mem hb
  exact absurd (Nat.lt_of_lt_of_le (Heap.lt_size ho) (Nat.le_trans I.sz h)) (Nat.lt_irrefl _)
theorem Inv.cne (I : Inv X pins σ H s) : ∀ x c, X.env.cells.lookup x = some c -> c ≠ X.env.locals := fun x c e z => by
  obtain ⟨v, o, ho, hd⟩ := I.cell x c e
  obtain ⟨m, ⟨o', es, ep, ho', hd', _⟩, _⟩ := I.loc
  rw [z, ho'] at ho; cases ho; rw [hd'] at hd; cases hd
theorem Inv.funs (I : Inv X pins σ H s) : s.heap.FunFrames X.base X.outer := by
  have all : ∀ (l : List Env), (∀ b ∈ frs l, b ∈ X.fs) -> X.s₀.heap.FunFrames X.base l -> s.heap.FunFrames X.base l := by
    intro l
    induction l with
    | nil => intro _ _; trivial
    | cons env r ih =>
      intro hs hl
      obtain ⟨hk, ⟨L, o, hf, hn, ho, hd⟩, hr⟩ := hl
      have hL : L ∈ X.fs := hs L (by unfold frs; rw [List.filterMap_cons, hf]; exact List.mem_cons_self)
      obtain ⟨sl, e⟩ := I.base.slot L o ho (I.ok.frf L hL) hL fun z => I.ok.exfs L z hL
      exact ⟨hk, ⟨L, _, hf, hn, e, hd⟩, ih (fun b hb => hs b (by unfold frs; rw [List.filterMap_cons, hf]; exact List.mem_cons_of_mem _ hb)) hr⟩
  exact all X.outer (fun _ hb => hb) I.ok.funs
theorem Inv.stack (I : Inv X pins σ H s) : s.heap.FunFrames X.base X.stack := by
  rcases I.ok.stk with e | ⟨e, hf⟩
  · rw [e]; exact I.funs
  · rw [e]
    obtain ⟨m, hn, _⟩ := I.loc
    refine .cons (by rw [I.ok.kind]; decide) hf hn ?_ I.funs
    exact Heap.get?_none_of_le (Nat.le_trans I.ok.bsz I.ok.above)
theorem Inv.stkSub (I : Inv X pins σ H s) : ∀ b ∈ frs X.stack, b ∈ X.env.locals :: X.fs := fun b hb => by
  rcases I.ok.stk with e | ⟨e, hf⟩
  · rw [e] at hb; exact List.mem_cons_of_mem _ hb
  · rw [e] at hb
    unfold frs at hb
    rw [List.filterMap_cons, hf] at hb
    exact hb
theorem Inv.stkFree (I : Inv X pins σ H s) : ∀ b ∈ frs X.stack, H b = none := fun b hb => by
  rcases List.mem_cons.mp (I.stkSub b hb) with e | hb
  · rw [e]; exact I.free
  · obtain ⟨_, o, ho, _⟩ := I.ok.funs.mem hb
    exact I.base.free b o ho (I.ok.frf b hb) fun z => I.ok.exfs b z hb
theorem Inv.step {g' : Array GenState} {t' : Nat} {d' : Drawn} {ch : List Addr} (I : Inv X pins σ H s)
    (hch : ∀ b ∈ ch, (b ∈ X.ex \/ X.s₀.heap.objs.size <= b) /\ b ≠ X.env.locals /\ (∀ x c, X.env.cells.lookup x = some c -> c ≠ b) /\ ∀ p ∈ X.pn ++ pins, p.1 ≠ b)
    (keep : ∀ b o, b ≠ X.env.locals -> b ∉ X.fs -> b ∉ ch -> s.heap.get? b = some o -> H b = none -> h'.get? b = some o)
    (slot : ∀ b o, b ≠ X.env.locals -> b ∈ X.fs -> b ∉ ch -> s.heap.get? b = some o -> H b = none -> ∃ sl, h'.get? b = some { o with slots := sl }) (free : ∀ b o, b ∉ ch -> s.heap.get? b = some o -> H b = none -> H' b = none)
    (there : ∀ b o, b ∉ ch -> s.heap.get? b = some o -> ∃ o', h'.get? b = some o')
    (tups : ∀ b xs, H b = some (.tup xs) -> H' b = some (.tup xs)) (frzs : ∀ b o u, H b = some (.frz o u) -> H' b = some (.frz o u)) (tbls : ∀ b ps, H b = some (.tbl ps) -> ∃ more, H' b = some (.tbl (ps ++ more)))
    (ns : ∀ m, s.heap.Ns X.env.locals m -> h'.Ns X.env.locals m) (hok : HOk X.prog X.w H' h') (hg : AllBare g') :
    Inv X pins σ H' { s with heap := h', gens := g', drawn := d', toks := t' } := by
  have neL : ∀ b o, X.s₀.heap.get? b = some o -> b ≠ X.env.locals := fun b o e => Nat.ne_of_lt (Nat.lt_of_lt_of_le (Heap.lt_size e) I.ok.above)
  have neC : ∀ b o, X.s₀.heap.get? b = some o -> b ∉ X.ex -> b ∉ ch := fun b o e hx hb => by
    rcases (hch b hb).1 with z | z
    · exact hx z
    · exact absurd (Nat.lt_of_lt_of_le (Heap.lt_size e) z) (Nat.lt_irrefl _)
  have cellK : ∀ x c, X.env.cells.lookup x = some c -> ∀ v, s.heap.IsCell c v -> h'.IsCell c v := fun x c e v ⟨o, ho, hd⟩ => by
    have nch : c ∉ ch := fun z => (hch c z).2.2.1 x c e rfl
    by_cases hc : c ∈ X.fs
    · obtain ⟨sl, q⟩ := slot c o (I.cne x c e) hc nch ho (I.freeC x c e)
      exact ⟨_, q, hd⟩
    · exact ⟨o, keep c o (I.cne x c e) hc nch ho (I.freeC x c e), hd⟩
  refine ⟨I.ok, I.os, hg, ⟨fun b o e n hb hx => ?_, fun b o e n hb hx => ?_, fun b o e n hx => ?_, fun b o e hx => ?_, fun b xs e => tups b xs (I.base.tups b xs e), fun b o xs e => frzs b o xs (I.base.frzs b o xs e), fun b ps e => ?_⟩, ?_, fun x c e => ?_, ?_, fun x c e => ?_, fun p hp => ?_, hok, I.len⟩
  · exact keep b o (neL b o e) hb (neC b o e hx) (I.base.keep b o e n hb hx) (I.base.free b o e n hx)
  · obtain ⟨sl, e1⟩ := I.base.slot b o e n hb hx
    obtain ⟨sl', e2⟩ := slot b _ (neL b o e) hb (neC b o e hx) e1 (I.base.free b o e n hx)
    exact ⟨sl', e2⟩
  · obtain ⟨o', e1⟩ := I.base.there b o e hx
    exact free b o' (neC b o e hx) e1 (I.base.free b o e n hx)
  · obtain ⟨o', e1⟩ := I.base.there b o e hx
    exact there b o' (neC b o e hx) e1
  · obtain ⟨m1, e1⟩ := I.base.tbls b ps e
    obtain ⟨m2, e2⟩ := tbls b _ e1
    exact ⟨m1 ++ m2, by rw [e2, Array.append_assoc]⟩
  · obtain ⟨m, hn, hl⟩ := I.loc
    refine ⟨m, ns m hn, fun i x v e1 e2 e3 => ?_⟩
    obtain ⟨u, r, l⟩ := hl i x v e1 e2 e3
    refine ⟨u, r, ?_⟩
    rcases l with l | ⟨k, c, e, z⟩
    · exact .inl l
    · exact .inr ⟨k, c, e, cellK x c e _ z⟩
  · obtain ⟨v, z⟩ := I.cell x c e
    exact ⟨v, cellK x c e v z⟩
  · obtain ⟨m, ⟨o, _, _, ho, _⟩, _⟩ := I.loc
    exact free _ o (fun z => (hch _ z).2.1 rfl) ho I.free
  · obtain ⟨v, o, ho, hd⟩ := I.cell x c e
    exact free c o (fun z => (hch c z).2.2.1 x c e rfl) ho (I.freeC x c e)
  · obtain ⟨e, n, ne, nf, d⟩ := I.pin p hp
    have nch : p.1 ∉ ch := fun z => (hch p.1 z).2.2.2 p hp rfl
    exact ⟨keep p.1 p.2 ne nf nch e n, free p.1 p.2 nch e n, ne, nf, d⟩
theorem Inv.un {t' : Nat} (I : Inv X pins σ H s) (u : Un X.fs [] H H' s.heap h') (hok : HOk X.prog X.w H' h') : Inv X pins σ H' { s with heap := h', toks := t' } := by
  obtain ⟨m, ⟨o, es, ep, ho, r⟩, _⟩ := id I.loc
  obtain ⟨sl, hL⟩ := u.any ho I.free (by simp)
  exact I.step (g' := s.gens) (d' := s.drawn) (ch := []) (fun _ z => nomatch z) (fun b o _ hb _ e n => u.keep b o e n hb (by simp)) (fun b o _ hb _ e n => u.slot b o e n hb (by simp)) (fun b o _ e n => u.free b o e n (by simp)) (fun b o _ e => u.there b o e (by simp)) u.tups u.frzs u.tbls (fun m' hm => by
    obtain ⟨o', es', ep', ho', r'⟩ := hm
    rw [ho] at ho'; cases ho'
    exact ⟨_, es', ep', hL, r'⟩) hok I.bare
theorem Inv.call {g' : Array GenState} {t' : Nat} {d' : Drawn} {ch : List Addr} (I : Inv X pins σ H s) (u : Un (frs X.stack) ch H H' s.heap h') (hok : HOk X.prog X.w H' h') (hg : AllBare g')
    (hch : ∀ b ∈ ch, (b ∈ X.ex \/ X.s₀.heap.objs.size <= b) /\ b ≠ X.env.locals /\ (∀ x c, X.env.cells.lookup x = some c -> c ≠ b) /\ ∀ p ∈ X.pn ++ pins, p.1 ≠ b) :
    Inv X pins σ H' { s with heap := h', gens := g', drawn := d', toks := t' } := by
  obtain ⟨m, ⟨o, es, ep, ho, r⟩, _⟩ := id I.loc
  obtain ⟨sl, hL⟩ := u.any ho I.free fun z => (hch _ z).2.1 rfl
  exact I.step (ch := ch) hch (fun b o hL hb hc e n => u.keep b o e n (fun z => (List.mem_cons.mp (I.stkSub b z)).elim hL hb) hc) (fun b o _ _ hc e n => u.any e n hc) (fun b o hc e n => u.free b o e n hc) (fun b o hc e => u.there b o e hc) u.tups u.frzs u.tbls (fun m' hm => by
    obtain ⟨o', es', ep', ho', r'⟩ := hm
    rw [ho] at ho'; cases ho'
    exact ⟨_, es', ep', hL, r'⟩) hok hg
theorem Inv.turned {t' : Nat} {it : Addr} (I : Inv X pins σ H s) (k : ∀ b o, b ≠ it -> s.heap.get? b = some o -> h'.get? b = some o) (hn : H it = none) (hL : it ≠ X.env.locals)
    (h1 : it ∈ X.ex \/ X.s₀.heap.objs.size <= it) (h2 : ∀ x c, X.env.cells.lookup x = some c -> c ≠ it) (h3 : ∀ p ∈ X.pn ++ pins, p.1 ≠ it) : Inv X pins σ H { s with heap := h', toks := t' } := by
  have nit : ∀ b u, H b = some u -> b ≠ it := fun b u e z => by rw [z, hn] at e; cases e
  refine I.step (g' := s.gens) (d' := s.drawn) (ch := [it]) (fun b hb => ?_) (fun b o _ _ hc e _ => k b o (fun z => hc (by simp [z])) e) (fun b o _ _ hc e _ => ⟨o.slots, k b o (fun z => hc (by simp [z])) e⟩) (fun _ _ _ _ n => n)
    (fun b o hc e => ⟨o, k b o (fun z => hc (by simp [z])) e⟩) (fun _ _ e => e) (fun _ _ _ e => e) (fun b ps e => ⟨#[], by rw [e]; simp⟩) (fun m hm => ?_) (fun b u e => ?_) I.bare
  · have e : b = it := by simpa using hb
    subst e
    exact ⟨h1, hL, h2, h3⟩
  · obtain ⟨o, es, ep, ho, r⟩ := hm
    exact ⟨o, es, ep, k _ o (Ne.symm hL) ho, r⟩
  · refine (I.hok b u e).stay (fun c v hc q => k c v ?_ q) (fun _ q => q) fun _ _ q => q
    rcases hc with z | z
    · rw [z]; exact nit b u e
    · exact nit c _ z
theorem Inv.tok (I : Inv X pins σ H s) (t : Nat) : Inv X pins σ H { s with toks := t } := I.un (h' := s.heap) (t' := t) Un.refl I.hok
theorem Inv.kept {t' : Nat} (I : Inv X pins σ H s) (k : ∀ b u, s.heap.get? b = some u -> h'.get? b = some u) : Inv X pins σ H { s with heap := h', toks := t' } := I.un (Un.kept k) (I.hok.kept k)
theorem Inv.laid {a : Addr} {o : HO} {t' : Nat} (I : Inv X pins σ H s) (k : ∀ b u, s.heap.get? b = some u -> h'.get? b = some u) (hp : s.heap.objs.size <= a) (new : ObjOk X.prog X.w (upd H a o) h' a o) :
    Inv X pins σ (upd H a o) { s with heap := h', toks := t' } := I.un (Un.laid k hp (I.hok.fresh hp)) (I.hok.laid k hp new)
theorem Inv.write {x e : Addr} {o : HO} {t' : Nat} (I : Inv X pins σ H s) (mu : Mut (H x)) (he : e = x \/ H e = some (.own x)) (k : ∀ b u, b ≠ e -> s.heap.get? b = some u -> h'.get? b = some u) (heo : ∃ u, h'.get? e = some u)
    (new : ObjOk X.prog X.w (upd H x o) h' x o) : Inv X pins σ (upd H x o) { s with heap := h', toks := t' } := I.un (Un.write mu he k heo) (I.hok.write mu he k heo new)
theorem Inv.pins_of {pins' : List (Addr × Obj)} (I : Inv X pins σ H s) (h : ∀ p ∈ pins', s.heap.get? p.1 = some p.2 /\ H p.1 = none /\ p.1 ≠ X.env.locals /\ p.1 ∉ X.fs /\ ∀ v, p.2.data ≠ .cell v) : Inv X pins' σ H s :=
  ⟨I.ok, I.os, I.bare, I.base, I.loc, I.cell, I.free, I.freeC, fun p hp => (List.mem_append.mp hp).elim (fun z => I.pin p (List.mem_append_left _ z)) (h p), I.hok, I.len⟩
theorem nodup_ix {N : List Str} (hN : N.Nodup) {i j : Nat} {x : Str} (a : N[i]? = some x) (b : N[j]? = some x) : i = j := by
  obtain ⟨h1, e1⟩ := List.getElem?_eq_some_iff.mp a
  obtain ⟨h2, e2⟩ := List.getElem?_eq_some_iff.mp b
  exact (List.getElem_inj hN).mp (e1.trans e2.symm)
theorem store_ok2 {M : Model} {A : Around} {E : Value -> Shared -> Prop} {i : Nat} {x : Str} {v : V} {u : Value} {Q : Unit -> Shared -> Prop} (I : Inv X pins σ H s) (hN : X.N.Nodup) (hi : X.N[i]? = some x) (hx : Loc X.env.scope x) (r : RelV v u)
    (h : ∀ s', Inv X pins (σ.set i (some v)) H s' -> (∃ a, Heap.SameBut a s.heap s'.heap /\ (a = X.env.locals \/ X.env.cells.lookup x = some a)) -> Q () s') (hf : X.fn x = true \/ X.env.scope.names.lookup x = some .local := by first | exact .inl rfl | exact .inr rfl | assumption) : wpAny M A (storeName X.env x u) Q E s := by
  obtain ⟨m, hn, hl⟩ := id I.loc
  have hcls : (X.env.scope.kind == .class || (X.env.scope.kind == .module && X.env.locals != X.env.globals)) = false := by rw [I.ok.kind]; rfl
  have hiσ : i < σ.length := by rw [I.len]; exact (List.getElem?_eq_some_iff.mp hi).1
  have cne := I.cne
  have tracked : ∀ {a : Addr} {h' : Heap}, (∃ o, s.heap.get? a = some o /\ H a = none) -> Heap.SameBut a s.heap h' -> HOk X.prog X.w H h' := fun {a h'} ha hs b ob e => by
    obtain ⟨_, _, hfree⟩ := ha
    refine (I.hok b ob e).stay (fun c w' hc q => (hs.2 c ?_).trans q) (fun _ q => q) fun _ _ q => q
    rintro rfl
    rcases hc with rfl | hc
    · rw [hfree] at e; cases e
    · rw [hfree] at hc; cases hc
  rcases hx with hk | hk
  · refine wpAny_storeName_local hk hn (fun h' hn' hs => ?_) hcls
    obtain ⟨oL, _, _, hoL, _⟩ := id hn
    refine h _ ⟨I.ok, I.os, I.bare, ⟨fun b o e n hb hx => ?_, fun b o e n hb hx => ?_, I.base.free, fun b o e hx => ?_, I.base.tups, I.base.frzs, I.base.tbls⟩, ⟨_, hn', fun j y v' e1 e2 e3 => ?_⟩, fun y c e => ?_, I.free, I.freeC, fun p hp => ?_, tracked ⟨oL, hoL, I.free⟩ hs, by simpa using I.len⟩ ⟨_, hs, .inl rfl⟩
    · exact (hs.2 b (Nat.ne_of_lt (Nat.lt_of_lt_of_le (Heap.lt_size e) I.ok.above))).trans (I.base.keep b o e n hb hx)
    · obtain ⟨sl, e1⟩ := I.base.slot b o e n hb hx
      exact ⟨sl, (hs.2 b (Nat.ne_of_lt (Nat.lt_of_lt_of_le (Heap.lt_size e) I.ok.above))).trans e1⟩
    · obtain ⟨o', e1⟩ := I.base.there b o e hx
      exact ⟨o', (hs.2 b (Nat.ne_of_lt (Nat.lt_of_lt_of_le (Heap.lt_size e) I.ok.above))).trans e1⟩
    · by_cases hj : j = i
      · subst hj
        rw [hi] at e1; cases e1
        rw [List.getElem?_set_self hiσ] at e2
        cases e2
        exact ⟨u, r, .inl ⟨hk, by simp⟩⟩
      · rw [List.getElem?_set_ne (Ne.symm hj)] at e2
        obtain ⟨u', r', q⟩ := hl j y v' e1 e2 e3
        refine ⟨u', r', ?_⟩
        rcases q with ⟨k, e⟩ | ⟨k, c, e, z⟩
        · refine .inl ⟨k, ?_⟩
          have : y ≠ x := fun e => hj (nodup_ix hN e1 (e ▸ hi))
          simp [this, e]
        · exact .inr ⟨k, c, e, z.sameBut hs (cne y c e)⟩
    · obtain ⟨w', z⟩ := I.cell y c e
      exact ⟨w', z.sameBut hs (cne y c e)⟩
    · obtain ⟨e, n, ne, nf, d⟩ := I.pin p hp
      exact ⟨(hs.2 p.1 ne).trans e, n, ne, nf, d⟩
  · have hfn : X.fn x = true := by
      rcases hf with z | z
      · exact z
      · rw [z] at hk; cases hk
    obtain ⟨c, hc⟩ := I.ok.has x (.inl hk)
    obtain ⟨w', z⟩ := I.cell x c hc
    refine wpAny_storeName_cell I.ok.kind hk hc z (fun h' hc' hs => ?_)
    obtain ⟨oc, hoc, hocd⟩ := id z
    refine h { s with heap := h' } ⟨I.ok, I.os, I.bare, ⟨fun b o e n hb hx => ?_, fun b o e n hb hx => ?_, I.base.free, fun b o e hx => ?_, I.base.tups, I.base.frzs, I.base.tbls⟩, ⟨m, hn.sameBut hs (Ne.symm (cne x c hc)), fun j y v' e1 e2 e3 => ?_⟩, fun y c' e => ?_, I.free, I.freeC, fun p hp => ?_, tracked ⟨oc, hoc, I.freeC x c hc⟩ hs, by simpa using I.len⟩ ⟨c, hs, .inr hc⟩
    · exact (hs.2 b (Nat.ne_of_lt (Nat.lt_of_lt_of_le (Heap.lt_size e) (I.ok.cab x c hfn hc)))).trans (I.base.keep b o e n hb hx)
    · obtain ⟨sl, e1⟩ := I.base.slot b o e n hb hx
      exact ⟨sl, (hs.2 b (Nat.ne_of_lt (Nat.lt_of_lt_of_le (Heap.lt_size e) (I.ok.cab x c hfn hc)))).trans e1⟩
    · obtain ⟨o', e1⟩ := I.base.there b o e hx
      exact ⟨o', (hs.2 b (Nat.ne_of_lt (Nat.lt_of_lt_of_le (Heap.lt_size e) (I.ok.cab x c hfn hc)))).trans e1⟩
    · by_cases hj : j = i
      · subst hj
        rw [hi] at e1; cases e1
        rw [List.getElem?_set_self hiσ] at e2
        cases e2
        exact ⟨u, r, .inr ⟨.inl hk, c, hc, hc'⟩⟩
      · rw [List.getElem?_set_ne (Ne.symm hj)] at e2
        obtain ⟨u', r', q⟩ := hl j y v' e1 e2 e3
        refine ⟨u', r', ?_⟩
        rcases q with q | ⟨k, c', e, z'⟩
        · exact .inl q
        · refine .inr ⟨k, c', e, z'.sameBut hs ?_⟩
          rintro rfl
          exact hj (nodup_ix hN e1 (I.ok.inj _ _ _ e hc ▸ hi))
    · by_cases hcc : c' = c
      · subst hcc; exact ⟨_, hc'⟩
      · obtain ⟨w2, z2⟩ := I.cell y c' e
        exact ⟨w2, z2.sameBut hs hcc⟩
    · obtain ⟨e, n, ne, nf, d⟩ := I.pin p hp
      refine ⟨(hs.2 p.1 ?_).trans e, n, ne, nf, d⟩
      intro q
      rw [q, hoc] at e
      have q' : oc = p.2 := Option.some.inj e
      exact d w' (by rw [<- q']; exact hocd)
theorem store_ok {M : Model} {A : Around} {E : Value -> Shared -> Prop} {i : Nat} {x : Str} {v : V} {u : Value} {Q : Unit -> Shared -> Prop} (I : Inv X pins σ H s) (hN : X.N.Nodup) (hi : X.N[i]? = some x) (hx : Loc X.env.scope x) (r : RelV v u)
    (h : ∀ s', Inv X pins (σ.set i (some v)) H s' -> Q () s') (hf : X.fn x = true \/ X.env.scope.names.lookup x = some .local := by first | exact .inl rfl | exact .inr rfl | assumption) : wpAny M A (storeName X.env x u) Q E s :=
  store_ok2 I hN hi hx r (fun s' I' _ => h s' I') hf
theorem Inv.call' {s' : Shared} {ch : List Addr} (I : Inv X pins σ H s) (ho : s'.os = s.os) (u : Un (frs X.stack) ch H H' s.heap s'.heap) (hok : HOk X.prog X.w H' s'.heap) (hg : AllBare s'.gens)
    (hch : ∀ b ∈ ch, (b ∈ X.ex \/ X.s₀.heap.objs.size <= b) /\ b ≠ X.env.locals /\ (∀ x c, X.env.cells.lookup x = some c -> c ≠ b) /\ ∀ p ∈ X.pn ++ pins, p.1 ≠ b) : Inv X pins σ H' s' := by
  obtain ⟨h', g', d', t', o'⟩ := s'
  have e : o' = s.os := ho
  subst e
  exact I.call (g' := g') (t' := t') (d' := d') u hok hg hch
end
abbrev XK := Value -> Option Addr -> Hp -> Prop
abbrev St := List (Option V)
abbrev VK := V -> Hp -> Prop
abbrev TE := St -> Hp -> VK -> Prop
abbrev TT := St -> Hp -> (Bool -> Hp -> Prop) -> Prop
abbrev TA := St -> Hp -> (List V -> Hp -> Prop) -> Prop
structure Ends where
  nx : St -> Hp -> Prop
  rt : VK
  bk : St -> Hp -> Prop := fun _ _ => False
  ct : St -> Hp -> Prop := fun _ _ => False
abbrev TS := Ends -> St -> Hp -> Prop
def EP (X : Cx) (pins : List (Addr × Obj)) (σ : St) (Q : VK) (u : Value) (s' : Shared) : Prop := ∃ v H', Inv X pins σ H' s' /\ RelV v u /\ Q v H'
def TP (X : Cx) (pins : List (Addr × Obj)) (σ : St) (Q : Bool -> Hp -> Prop) (b : Bool) (s' : Shared) : Prop := ∃ H', Inv X pins σ H' s' /\ Q b H'
def AP (X : Cx) (pins : List (Addr × Obj)) (σ : St) (Q : List V -> Hp -> Prop) (us : List Value) (s' : Shared) : Prop := ∃ vs H', Inv X pins σ H' s' /\ Vals vs us /\ Q vs H'
def SP (X : Cx) (pins : List (Addr × Obj)) (D : Ends) (f : Flow) (s' : Shared) : Prop :=
  match f with
  | .next => ∃ σ' H', Inv X pins σ' H' s' /\ D.nx σ' H'
  | .brk => ∃ σ' H', Inv X pins σ' H' s' /\ D.bk σ' H'
  | .cont => ∃ σ' H', Inv X pins σ' H' s' /\ D.ct σ' H'
  | .ret u => ∃ v σ' H', Inv X pins σ' H' s' /\ RelV v u /\ D.rt v H'
def PE (X : Cx) (e : Expr) (t : TE) : Prop :=
  ∀ (pins : List (Addr × Obj)) (s : Shared) (σ : St) (H : Hp) (Q : VK), Inv X pins σ H s -> t σ H Q -> wpAny (model X.prog X.w) X.A (eval e X.env) (EP X pins σ Q) X.xe s
def PT (X : Cx) (e : Expr) (t : TT) : Prop :=
  ∀ (pins : List (Addr × Obj)) (s : Shared) (σ : St) (H : Hp) (Q : Bool -> Hp -> Prop), Inv X pins σ H s -> t σ H Q -> wpAny (model X.prog X.w) X.A (isTrue e X.env (eval e X.env)) (TP X pins σ Q) X.xe s
def PW (X : Cx) (e : Expr) (t : TT) : Prop :=
  ∀ (whole : Sem Value) (pins : List (Addr × Obj)) (s : Shared) (σ : St) (H : Hp) (Q : Bool -> Hp -> Prop), Inv X pins σ H s -> t σ H Q -> wpAny (model X.prog X.w) X.A (isTrue e X.env whole) (TP X pins σ Q) X.xe s
theorem PW.pt {X : Cx} {e : Expr} {t : TT} (h : PW X e t) : PT X e t := h _
def PA (X : Cx) (es : List Expr) (t : TA) : Prop :=
  ∀ (pos : Pos) (pins : List (Addr × Obj)) (s : Shared) (σ : St) (H : Hp) (Q : List V -> Hp -> Prop), Inv X pins σ H s -> t σ H Q -> wpAny (model X.prog X.w) X.A (spliced (backTo pos (starEach es X.env))) (AP X pins σ Q) X.xe s
def PS (X : Cx) (st : Stmt) (t : TS) : Prop :=
  ∀ (pins : List (Addr × Obj)) (s : Shared) (σ : St) (H : Hp) (D : Ends), Inv X pins σ H s -> t D σ H -> wpAny (model X.prog X.w) X.A (exec st X.env) (SP X pins D) X.xe s
def PSs (X : Cx) (st : List Stmt) (t : TS) : Prop :=
  ∀ (pins : List (Addr × Obj)) (s : Shared) (σ : St) (H : Hp) (D : Ends), Inv X pins σ H s -> t D σ H -> wpAny (model X.prog X.w) X.A (execs st X.env) (SP X pins D) X.xe s
theorem thn {α : Type} {t : Sem α} {Q Q' : α -> Shared -> Prop} {M : Model} {A : Around} {E : Value -> Shared -> Prop} {s : Shared} (h : wpAny M A t Q E s) (hQ : ∀ a s, Q a s -> Q' a s) : wpAny M A t Q' E s := wpAny_mono h hQ fun _ _ x => x
section
variable {X : Cx}
def tVar (i : Nat) : TE := fun σ H Q => ∃ v, σ[i]? = some (some v) /\ Q v H
def tC (v : V) : TE := fun _ H Q => Q v H
theorem pe_var {i : Nat} {x : Str} {pos : Pos} (hN : X.N[i]? = some x) (hv : Vis X.env.scope x) (hd : (x == ("__debug__" : Str)) = false := by decide) (hcd : (x == ("__classdict__" : Str)) = false := by decide) : PE X (.Name x pos) (tVar i) := by
  intro pins s σ H Q I h
  obtain ⟨v, e, h⟩ := h
  obtain ⟨m, hn, hl⟩ := I.loc
  obtain ⟨u, r, l⟩ := hl i x v hN e hv
  have fin : EP X pins σ Q u s := ⟨v, H, I, r, h⟩
  rcases l with ⟨hk, hm⟩ | ⟨hk, c, hc, hcell⟩
  · exact wpAny_Name (wpAny_loadName_local I.ok.kind hk hn hm fin) hd
  · rcases hk with hk | hk
    · exact wpAny_Name (wpAny_loadName_cell I.ok.kind hk hc hcell fin) hd
    · exact wpAny_Name (wpAny_loadName_free I.ok.kind hk hc hcell fin hcd) hd
theorem pe_int {i j pos} : PE X (.Constant (.int i) j pos) (tC (.int i)) := fun _ _ _ H _ I h => wpAny_Constant_int ⟨.int i, H, I.tok _, ⟨_, rfl⟩, h⟩
theorem pe_bl {b j pos} : PE X (.Constant (.bool b) j pos) (tC (.bl b)) := fun _ _ _ H _ I h => Constant_bool ⟨.bl b, H, I, rfl, h⟩
theorem pe_str {x j pos} : PE X (.Constant (.str x) j pos) (tC (.str x)) := fun _ _ _ H _ I h => Calls.Constant_str ⟨.str x, H, I.tok _, ⟨_, rfl⟩, h⟩
def Gl (X : Cx) (x : Str) : Prop := X.env.kindOf x = some .globalImplicit
theorem ld_glob {E : Value -> Shared -> Prop} {pins : List (Addr × Obj)} {s : Shared} {σ : St} {H : Hp} {x : Str} {u : Value} {pos : Pos} {Q : Value -> Shared -> Prop} (I : Inv X pins σ H s) (hg : Gl X x) (hm : X.mg x = some u) (h : Q u s)
    (hd : (x == ("__debug__" : Str)) = false := by decide) : wpAny (model X.prog X.w) X.A (eval (.Name x pos) X.env) Q E s :=
  Calls.Name_function_global I.ok.kind hg (Calls.loadGlobal_global (by rw [I.ok.glob]; exact I.mod.glob.keeps I.bk) hm h) hd
theorem ld_blt {E : Value -> Shared -> Prop} {pins : List (Addr × Obj)} {s : Shared} {σ : St} {H : Hp} {x : Str} {u : Value} {pos : Pos} {Q : Value -> Shared -> Prop} (I : Inv X pins σ H s) (hg : Gl X x) (hm : X.mg x = none) (hv : bootBuiltins x = some u) (h : Q u s)
    (hn : x ≠ "__name__" := by decide) (hd : (x == ("__debug__" : Str)) = false := by decide) : wpAny (model X.prog X.w) X.A (eval (.Name x pos) X.env) Q E s := by
  obtain ⟨mb, h1, h2⟩ := I.mod.blt
  exact Calls.Name_function_global I.ok.kind hg (Calls.loadGlobal_builtin (by rw [I.ok.glob]; exact I.mod.glob.keeps I.bk) hm (by rw [I.ok.blt]; exact h1.keeps I.bk) ((h2 x hn).trans hv) h) hd
theorem pe_glob {x : Str} {v : V} {u : Value} {pos : Pos} (hg : Gl X x) (hm : X.mg x = some u) (r : RelV v u) (hd : (x == ("__debug__" : Str)) = false := by decide) : PE X (.Name x pos) (tC v) :=
  fun _ _ _ H _ I h => ld_glob I hg hm ⟨v, H, I, r, h⟩ hd
theorem pe_bltn {x : Str} {v : V} {u : Value} {pos : Pos} (hg : Gl X x) (hm : X.mg x = none) (hv : bootBuiltins x = some u) (r : RelV v u) (hn : x ≠ "__name__" := by decide) (hd : (x == ("__debug__" : Str)) = false := by decide) : PE X (.Name x pos) (tC v) :=
  fun _ _ _ H _ I h => ld_blt I hg hm hv ⟨v, H, I, r, h⟩ hn hd
variable {a b : Expr} {ta tb : TE} {pos : Pos}
def tB (t : TE) : TT := fun σ H Q => t σ H fun x H1 => ∃ c, x = .bl c /\ Q c H1
theorem pt_val {e : Expr} {t : TE} (h : PE X e t) (he : ∀ whole, isTrue e X.env whole = (do let v <- whole; standAt e.pos; holding [v] (truthy v)) := by intro _; rfl) : PT X e (tB t) := by
  intro pins s σ H Q I hw
  refine isTrue_plain (thn (h pins s σ H _ I hw) fun v s1 ⟨x, H1, I1, r1, q1⟩ => ?_) (he _)
  obtain ⟨d, rfl, q⟩ := q1
  cases r1
  exact wpAny_truthy_bool ⟨H1, I1, q⟩
variable {tA tB' : TT} {rest : List Expr}
def tAnd (t u : TT) : TT := fun σ H Q => t σ H fun c H1 => if c = true then u σ H1 Q else Q false H1
def tOr (t u : TT) : TT := fun σ H Q => t σ H fun c H1 => if c = true then Q true H1 else u σ H1 Q
def tNot (t : TT) : TT := fun σ H Q => t σ H fun c H1 => Q (!c) H1
theorem pw_and1 (ha : PT X a tA) : PW X (.BoolOp .And [a] pos) tA := by
  intro wh pins s σ H Q I h
  refine isTrue_and (thn (ha pins s σ H Q I h) fun c s1 e => ?_)
  cases c with
  | true => exact isTrue_and_nil e
  | false => exact e
theorem pw_or1 (ha : PT X a tA) : PW X (.BoolOp .Or [a] pos) tA := by
  intro wh pins s σ H Q I h
  refine isTrue_or (thn (ha pins s σ H Q I h) fun c s1 e => ?_)
  cases c with
  | false => exact isTrue_or_nil e
  | true => exact e
theorem pw_and (ha : PT X a tA) (hb : PW X (.BoolOp .And (b :: rest) pos) tB') : PW X (.BoolOp .And (a :: b :: rest) pos) (tAnd tA tB') := by
  intro wh pins s σ H Q I h
  refine isTrue_and (thn (ha pins s σ H _ I h) fun c s1 ⟨H1, I1, q1⟩ => ?_)
  cases c with
  | true => exact hb wh pins s1 σ H1 Q I1 q1
  | false => exact ⟨H1, I1, q1⟩
theorem pw_or (ha : PT X a tA) (hb : PW X (.BoolOp .Or (b :: rest) pos) tB') : PW X (.BoolOp .Or (a :: b :: rest) pos) (tOr tA tB') := by
  intro wh pins s σ H Q I h
  refine isTrue_or (thn (ha pins s σ H _ I h) fun c s1 ⟨H1, I1, q1⟩ => ?_)
  cases c with
  | true => exact ⟨H1, I1, q1⟩
  | false => exact hb wh pins s1 σ H1 Q I1 q1
theorem pt_not (ha : PT X a tA) : PT X (.UnaryOp .Not a pos) (tNot tA) := by
  intro pins s σ H Q I h
  exact isTrue_not (ha pins s σ H (fun c H1 => Q (!c) H1) I h)
end
def SqL (K : PySem.W.Frag) (H : Hp) (a : Addr) (xs : List V) : Prop :=
  Rd H a (.lst xs) \/
    ∃ (o : Obj) (its : Array Value) (n : Nat), K.lookup a = some o /\ o.cls = .type "list" /\ o.dict = none /\ o.data = .seq its n /\ its.size <= sizeLine /\ Vals xs its.toList
def SqT (K : PySem.W.Frag) (H : Hp) (a : Addr) (xs : List V) : Prop :=
  Rd H a (.tup xs) \/
    ∃ (o : Obj) (its : Array Value) (n : Nat), K.lookup a = some o /\ o.cls = .type "tuple" /\ o.data = .seq its n /\ its.size <= sizeLine /\ Vals xs its.toList
def absV : Value -> Option V
  | .none => some .non
  | .bool b => some (.bl b)
  | .int i _ => some (.int i)
  | .str x _ => some (.str x)
  | .bytes b _ => some (.byt b)
  | .float b _ => some (.flt b)
  | .ref a => some (.ref a)
  | .type n => some (.ty n)
  | _ => none
theorem RelV.abs {x : V} {u : Value} (r : RelV x u) : absV u = some x := by
  cases x with
  | non => cases r; rfl
  | bl _ => cases r; rfl
  | int _ => obtain ⟨t, rfl⟩ := r; rfl
  | str _ => obtain ⟨t, rfl⟩ := r; rfl
  | byt _ => obtain ⟨t, rfl⟩ := r; rfl
  | flt _ => obtain ⟨t, rfl⟩ := r; rfl
  | ref _ => cases r; rfl
  | ty _ => cases r; rfl
theorem RelV.inj {x y : V} {u : Value} (r : RelV x u) (q : RelV y u) : x = y := Option.some.inj (r.abs.symm.trans q.abs)
theorem Vals.inj : ∀ {xs ys : List V} {us : List Value}, Vals xs us -> Vals ys us -> xs = ys
  | _, _, _, .nil, .nil => rfl
  | _, _, _, .cons r t, .cons r' t' => by rw [r.inj r', Vals.inj t t']
section
variable {X : Cx} {pins : List (Addr × Obj)} {σ : St} {H : Hp} {s : Shared} {a : Addr} {xs ys : List V}
theorem SqL.of {K : PySem.W.Frag} (h : H a = some (.lst xs)) : SqL K H a xs := .inl (.inl h)
theorem SqT.of {K : PySem.W.Frag} (h : H a = some (.tup xs)) : SqT K H a xs := .inl (.inl h)
theorem Inv.list (I : Inv X pins σ H s) (h : SqL X.K H a xs) : ∃ its : List Value, Vals xs its /\ PlainL s.heap a its.toArray /\ xs.length <= sizeLine := by
  rcases h with h | ⟨o, its, n, hk, hc, hd, hs, hz, r⟩
  · obtain ⟨z, its, n, r, e⟩ := h.ok I.hok
    exact ⟨its, r, ⟨_, n, e, rfl, rfl, rfl⟩, z⟩
  · refine ⟨its.toList, r, ⟨o, n, I.kIn a o hk, hc, hd, by simpa using hs⟩, ?_⟩
    have e := r.length
    simp only [Array.length_toList] at e
    lia
theorem Inv.tuple (I : Inv X pins σ H s) (h : SqT X.K H a xs) : ∃ its : List Value, Vals xs its /\ IsTup s.heap a its.toArray /\ xs.length <= sizeLine := by
  rcases h with h | ⟨o, its, n, hk, hc, hs, hz, r⟩
  · obtain ⟨z, its, r, p⟩ := h.ok I.hok
    exact ⟨its, r, p, z⟩
  · refine ⟨its.toList, r, ⟨o, I.kIn a o hk, hc, n, by simpa using hs⟩, ?_⟩
    have e := r.length
    simp only [Array.length_toList] at e
    lia
theorem Inv.list_inj (I : Inv X pins σ H s) (h : SqL X.K H a xs) (h' : SqL X.K H a ys) : xs = ys := by
  obtain ⟨its, r, ⟨o, n, e, _, _, d⟩, _⟩ := I.list h
  obtain ⟨its', r', ⟨o', n', e', _, _, d'⟩, _⟩ := I.list h'
  rw [e] at e'; cases e'
  rw [d] at d'
  injection d' with d1 _
  have : its = its' := by simpa using congrArg Array.toList d1
  subst this
  exact r.inj r'
theorem Inv.tuple_inj (I : Inv X pins σ H s) (h : SqT X.K H a xs) (h' : SqT X.K H a ys) : xs = ys := by
  obtain ⟨its, r, ⟨o, e, _, n, d⟩, _⟩ := I.tuple h
  obtain ⟨its', r', ⟨o', e', _, n', d'⟩, _⟩ := I.tuple h'
  rw [e] at e'; cases e'
  rw [d] at d'
  injection d' with d1 _
  have : its = its' := by simpa using congrArg Array.toList d1
  subst this
  exact r.inj r'
end
abbrev Cx.wish (X : Cx) (E : Value -> Shared -> Prop) : Cx := { X with xe := E }
abbrev Cx.nox (X : Cx) : Cx := X.wish fun _ _ => False
theorem Cx.Ok.wish {X : Cx} (ok : X.Ok) (E : Value -> Shared -> Prop) : (X.wish E).Ok :=
  ⟨ok.mod, ok.kind, ok.glob, ok.blt, ok.above, ok.inj, ok.has, ok.cab, ok.hd, ok.frames, ok.stk, ok.exf, ok.bs, ok.bsz, ok.noex, ok.exfs, ok.funs, ok.frf⟩
theorem Cx.Ok.unwish {X : Cx} {E : Value -> Shared -> Prop} (ok : (X.wish E).Ok) : X.Ok :=
  ⟨ok.mod, ok.kind, ok.glob, ok.blt, ok.above, ok.inj, ok.has, ok.cab, ok.hd, ok.frames, ok.stk, ok.exf, ok.bs, ok.bsz, ok.noex, ok.exfs, ok.funs, ok.frf⟩
section
variable {X : Cx} {pins : List (Addr × Obj)} {σ : St} {H : Hp} {s : Shared} {E : Value -> Shared -> Prop}
theorem Inv.wish (I : Inv X pins σ H s) (E : Value -> Shared -> Prop) : Inv (X.wish E) pins σ H s := ⟨I.ok.wish E, I.os, I.bare, I.base, I.loc, I.cell, I.free, I.freeC, I.pin, I.hok, I.len⟩
theorem Inv.unwish (I : Inv (X.wish E) pins σ H s) : Inv X pins σ H s := ⟨I.ok.unwish, I.os, I.bare, I.base, I.loc, I.cell, I.free, I.freeC, I.pin, I.hok, I.len⟩
theorem SP.unwish {D : Ends} {f : Flow} {s' : Shared} (h : SP (X.wish E) pins D f s') : SP X pins D f s' := by
  cases f with
  | next => obtain ⟨σ', H', I, q⟩ := h; exact ⟨σ', H', I.unwish, q⟩
  | brk => obtain ⟨σ', H', I, q⟩ := h; exact ⟨σ', H', I.unwish, q⟩
  | cont => obtain ⟨σ', H', I, q⟩ := h; exact ⟨σ', H', I.unwish, q⟩
  | ret u => obtain ⟨v, σ', H', I, r, q⟩ := h; exact ⟨v, σ', H', I.unwish, r, q⟩
theorem PSs.nox {st : List Stmt} {t : TS} (h : PSs X.nox st t) : PSs X st t := fun pins s σ H D I hw =>
  wpAny_mono (h pins s σ H D (I.wish _) hw) (fun _ _ q => q.unwish) fun _ _ z => False.elim z
end
section
variable {X : Cx} {st : Stmt} {rest : List Stmt} {t u : TS} {e : Expr} {te : TE} {pos : Pos}
def tNext : TS := fun D σ H => D.nx σ H
def tSeq (t u : TS) : TS := fun D σ H => t { D with nx := u D } σ H
theorem pss_nil : PSs X [] tNext := fun _ _ σ H _ I h => wpAny_execs_nil ⟨σ, H, I, h⟩
theorem pss_cons (h1 : PS X st t) (h2 : PSs X rest u) : PSs X (st :: rest) (tSeq t u) := by
  intro pins s σ H D I h
  refine wpAny_execs_cons (thn (h1 pins s σ H { D with nx := u D } I h) fun f s1 q => ?_)
  cases f with
  | next =>
    obtain ⟨σ', H', I', q⟩ := q
    exact h2 pins s1 σ' H' D I' q
  | ret v => exact q
  | brk => exact q
  | cont => exact q
theorem pss_one (h1 : PS X st t) : PSs X [st] t := by
  intro pins s σ H D I h
  refine wpAny_execs_cons (thn (h1 pins s σ H D I h) fun f s1 q => ?_)
  cases f with
  | next => exact wpAny_execs_nil q
  | ret v => exact q
  | brk => exact q
  | cont => exact q
theorem Inv.quiet {pins : List (Addr × Obj)} {σ : St} {H : Hp} {s : Shared} (I : Inv X pins σ H s) : interactive X.env = false := by simp [interactive, I.ok.kind]
def tDrop (te : TE) : TS := fun D σ H => te σ H fun _ H1 => D.nx σ H1
theorem ps_expr (he : PE X e te) (hs : swapsWith e none pos.line X.env = pure false := by rfl) : PS X (.Expr e pos) (tDrop te) := by
  intro pins s σ H D I h
  exact wpAny_Expr_any (thn (he pins s σ H _ I h) fun v s1 ⟨x, H1, I1, r1, q1⟩ => ⟨σ, H1, I1, q1⟩) I.quiet hs
def tRet (te : TE) : TS := fun D σ H => te σ H D.rt
theorem ps_ret (he : PE X e te) : PS X (.Return (some e) pos) (tRet te) := by
  intro pins s σ H D I h
  exact wpAny_Return_some (thn (he pins s σ H _ I h) fun v s1 ⟨x, H1, I1, r1, q1⟩ => ⟨x, σ, H1, I1, r1, q1⟩)
def tIfS (c : TT) (t u : TS) : TS := fun D σ H => c σ H fun b H1 => if b = true then t D σ H1 else u D σ H1
theorem ps_if {c : Expr} {a b : List Stmt} {tc : TT} (hc : PT X c tc) (ha : PSs X a t) (hb : PSs X b u) : PS X (.If c a b pos) (tIfS tc t u) := by
  intro pins s σ H D I h
  refine wpAny_If (thn (hc pins s σ H _ I h) fun d s1 ⟨H1, I1, q1⟩ => ?_)
  cases d with
  | true => exact ha pins s1 σ H1 D I1 q1
  | false => exact hb pins s1 σ H1 D I1 q1
def tNever : TS := fun _ _ _ => False
theorem pss_never {sts : List Stmt} : PSs X sts tNever := fun _ _ _ _ _ _ h => h.elim
end
abbrev TG := V -> St -> Hp -> (St -> Hp -> Prop) -> Prop
abbrev TGs := List V -> St -> Hp -> (St -> Hp -> Prop) -> Prop
def PG (X : Cx) (target : Expr) (t : TG) : Prop :=
  ∀ (pins : List (Addr × Obj)) (s : Shared) (σ : St) (H : Hp) (v : V) (u : Value) (Q : St -> Hp -> Prop), Inv X pins σ H s -> RelV v u -> t v σ H Q ->
    wpAny (model X.prog X.w) X.A (assign target X.env u) (fun _ s' => ∃ σ' H', Inv X pins σ' H' s' /\ Q σ' H') X.xe s
def PGs (X : Cx) (ts : List Expr) (t : TGs) : Prop :=
  ∀ (pins : List (Addr × Obj)) (s : Shared) (σ : St) (H : Hp) (vs : List V) (us : List Value) (Q : St -> Hp -> Prop), Inv X pins σ H s -> Vals vs us -> t vs σ H Q ->
    wpAny (model X.prog X.w) X.A (assignInOrder ((assignEach ts X.env).map (·.2)) us) (fun _ s' => ∃ σ' H', Inv X pins σ' H' s' /\ Q σ' H') X.xe s
abbrev TSet := V -> V -> V -> Hp -> (Hp -> Prop) -> Prop
def PSet (X : Cx) (t : TSet) : Prop :=
  ∀ (pins : List (Addr × Obj)) (s : Shared) (σ : St) (H : Hp) (o i v : V) (ov iv u : Value) (Q : Hp -> Prop), Inv X pins σ H s -> RelV o ov -> RelV i iv -> RelV v u -> t o i v H Q ->
    wpAny (model X.prog X.w) X.A (setItem ov iv u) (fun _ s' => ∃ H', Inv X pins σ H' s' /\ Q H') X.xe s
section
variable {X : Cx} {pos : Pos}
def gName (i : Nat) : TG := fun v σ H Q => Q (σ.set i (some v)) H
theorem pg_name {i : Nat} {x : Str} (hN : X.N.Nodup) (hi : X.N[i]? = some x) (hx : Loc X.env.scope x) (hf : X.fn x = true \/ X.env.scope.names.lookup x = some .local := by first | exact .inl rfl | exact .inr rfl | assumption) : PG X (.Name x pos) (gName i) := by
  intro pins s σ H v u Q I r h
  exact wpAny_assign_Name (store_ok I hN hi hx r (fun s' I' => ⟨_, H, I', h⟩) hf)
def gNil : TGs := fun vs σ H Q => vs = [] /\ Q σ H
def gCons (t : TG) (u : TGs) : TGs := fun vs σ H Q => ∃ v r, vs = v :: r /\ t v σ H fun σ' H' => u r σ' H' Q
theorem pgs_nil : PGs X [] gNil := by
  intro pins s σ H vs us Q I r h
  obtain ⟨e, h⟩ := h
  subst e
  cases r
  exact assignInOrder_nil ⟨σ, H, I, h⟩
theorem pgs_cons {e : Expr} {es : List Expr} {t : TG} {u : TGs} (h1 : PG X e t) (h2 : PGs X es u)
    (hs : (assignEach (e :: es) X.env).map (·.2) = assign e X.env :: (assignEach es X.env).map (·.2) := by rfl) : PGs X (e :: es) (gCons t u) := by
  intro pins s σ H vs us Q I r h
  obtain ⟨v, vr, e1, h⟩ := h
  subst e1
  cases r with
  | cons r rr =>
    rw [hs]
    refine assignInOrder_cons (thn (h1 pins s σ H _ _ _ I r h) fun _ s1 ⟨σ1, H1, I1, q1⟩ => ?_)
    exact h2 pins s1 σ1 H1 _ _ Q I1 rr q1
def gTup (K : PySem.W.Frag) (n : Nat) (t : TGs) : TG := fun v σ H Q => ∃ a xs, v = .ref a /\ SqT K H a xs /\ xs.length = n /\ t xs σ H Q
theorem pg_tup {es : List Expr} {k : Nat} {t : TGs} {n : Nat} (hc : X.calm = true) (h : PGs X es t)
    (hn : (assignEach es X.env).length = n := by rfl) (hst : (assignEach es X.env).findIdx? (·.1) = none := by rfl) : PG X (.Tuple es k pos) (gTup X.K n t) := by
  intro pins s σ H v u Q I r hw
  obtain ⟨a, xs, e1, hq, hl, hw⟩ := hw
  subst e1
  cases r
  obtain ⟨its, rv, ht, hz⟩ := I.tuple hq
  refine assign_Tuple_tuple (I.ok.hd hc) ht (by simp [hn, <- hl, rv.length]) hst fun h' hx => ?_
  have I1 : Inv X pins σ H { s with heap := h' } := I.kept (t' := s.toks) fun b o e => hx b o (Nat.ne_of_lt (Heap.lt_size e)) e
  exact h pins _ σ H xs _ Q I1 (by simpa using rv) hw
def gSub (to ti : TE) (t : TSet) : TG := fun v σ H Q => to σ H fun o H1 => ti σ H1 fun i H2 => t o i v H2 fun H3 => Q σ H3
theorem pg_sub {o i : Expr} {to ti : TE} {t : TSet} (ho : PE X o to) (hi : PE X i ti) (hs : PSet X t)
    (ha : ∀ v, assign (.Subscript o i pos) X.env v = (do
      let ov <- holding [v] (eval o X.env)
      let iv <- holding [v, ov] (eval i X.env)
      standAt pos
      holding [v, ov, iv] (setItem ov iv v)
      release [v, ov, iv] []) := by intro _; rfl) : PG X (.Subscript o i pos) (gSub to ti t) := by
  intro pins s σ H v u Q I r h
  rw [ha]
  refine wpAny_bind (wpAny_holding (thn (ho pins s σ H _ I h) fun ov s1 ⟨x, H1, I1, r1, q1⟩ => ?_))
  refine wpAny_bind (wpAny_holding (thn (hi pins s1 σ H1 _ I1 q1) fun iv s2 ⟨y, H2, I2, r2, q2⟩ => ?_))
  refine wpAny_bind (wpAny_standAt (wpAny_bind (wpAny_holding (thn (hs pins s2 σ H2 x y v ov iv u _ I2 r1 r2 r q2) fun _ s3 ⟨H3, I3, q3⟩ => ?_))))
  exact wpAny_release ⟨σ, H3, I3, q3⟩
def tAsg (te : TE) (g : TG) : TS := fun D σ H => te σ H fun x H1 => g x σ H1 D.nx
theorem ps_asg {tg e : Expr} {te : TE} {g : TG} (he : PE X e te) (hg : PG X tg g) (hs : swapsWithSole [tg] e pos.line X.env = pure false := by rfl) (hw : swappedStores [tg] e X.env = pure none := by rfl)
    (h1 : (assignEach [tg] X.env).map (·.2) = [assign tg X.env] := by rfl) : PS X (.Assign [tg] e pos) (tAsg te g) := by
  intro pins s σ H D I h
  refine wpAny_Assign_stores (thn (he pins s σ H _ I h) fun v s1 ⟨x, H1, I1, r1, q1⟩ => ?_) hs hw
  rw [h1]
  exact thn (hg pins s1 σ H1 x v _ I1 r1 q1) fun _ s2 q => q
theorem ps_set {i : Nat} {x : Str} {e : Expr} {te : TE} {pos' : Pos} (hN : X.N.Nodup) (hi : X.N[i]? = some x) (hx : Loc X.env.scope x) (he : PE X e te) (hs : swapsWith e (some (.Name x pos')) pos.line X.env = pure false := by rfl) (hf : X.fn x = true \/ X.env.scope.names.lookup x = some .local := by first | exact .inl rfl | exact .inr rfl | assumption) :
    PS X (.Assign [.Name x pos'] e pos) (tAsg te (gName i)) := by
  intro pins s σ H D I h
  refine wpAny_Assign_Name (thn (he pins s σ H _ I h) fun v s1 ⟨y, H1, I1, r1, q1⟩ => ?_) hs
  exact store_ok I1 hN hi hx r1 (fun s2 I2 => ⟨_, H1, I2, q1⟩) hf
end
structure It where
  go : Nat -> Hp -> Prop
  yld : Nat -> Hp -> V -> Hp -> Prop
  stop : Nat -> Hp -> Prop
def FpOk (X : Cx) (pins : List (Addr × Obj)) (H : Hp) (b : Addr) : Prop :=
  H b = none /\ b ≠ X.env.locals /\ b ∉ X.fs /\ (b ∈ X.ex \/ X.s₀.heap.objs.size <= b) /\ (∀ x c, X.env.cells.lookup x = some c -> c ≠ b) /\ ∀ p ∈ X.pn ++ pins, p.1 ≠ b
theorem Inv.fpOk {X : Cx} {pins : List (Addr × Obj)} {σ : St} {H H' : Hp} {s : Shared} {b : Addr} (I : Inv X pins σ H s) (hb : s.heap.objs.size <= b) (hn : H' b = none) : FpOk X pins H' b := by
  refine ⟨hn, Nat.ne_of_gt (Nat.lt_of_lt_of_le I.lt hb), I.nofs hb, .inr (Nat.le_trans I.sz hb), fun x c e z => ?_, fun p hp z => ?_⟩
  · obtain ⟨v, q⟩ := I.cell x c e
    exact absurd (Nat.lt_of_lt_of_le q.lt (by rw [z]; exact hb)) (Nat.lt_irrefl _)
  · exact absurd (Nat.lt_of_lt_of_le (Heap.lt_size (I.pin p hp).1) (by rw [z]; exact hb)) (Nat.lt_irrefl _)
structure Turn (P : Program) (w : World) (K : PySem.W.Frag) (tg : Expr) (J : It) (fp : List Addr) (it : Addr) (tn : Nat -> Heap -> Prop) : Prop where
  mem : it ∈ fp
  obj : ∀ i h, tn i h -> ∀ b ∈ fp, ∃ o, h.get? b = some o /\ ∀ v, o.data ≠ .cell v
  keep : ∀ i h h', tn i h -> (∀ b ∈ fp, ∀ o, h.get? b = some o -> h'.get? b = some o) -> tn i h'
  item : ∀ (X : Cx), X.prog = P -> X.w = w -> X.K = K -> X.calm = true -> ∀ (i : Nat) (pins : List (Addr × Obj)) (s : Shared) (σ : St) (H : Hp) (E : Value -> Shared -> Prop), Inv X pins σ H s -> (∀ b ∈ fp, FpOk X pins H b) -> tn i s.heap -> J.go i H ->
    wpAny (model P w) X.A (pyNext (.ref it)) (fun r s1 => ∃ u, r = some u /\
      wpAny (model P w) X.A (letOwnedTupleGo tg (.ref it) u) (fun _ s2 => ∃ x H', Inv X pins σ H' s2 /\ RelV x u /\ J.yld i H x H' /\ tn (i + 1) s2.heap /\ ∀ b ∈ fp, H' b = none) E s1) E s
  done : ∀ (X : Cx), X.prog = P -> X.w = w -> X.K = K -> X.calm = true -> ∀ (i : Nat) (pins : List (Addr × Obj)) (s : Shared) (σ : St) (H : Hp) (E : Value -> Shared -> Prop), Inv X pins σ H s -> (∀ b ∈ fp, FpOk X pins H b) -> tn i s.heap -> J.stop i H ->
    wpAny (model P w) X.A (pyNext (.ref it)) (fun r s1 => r = none /\ Inv X pins σ H s1) E s
  self : ∀ (A : Around) (i : Nat) (s : Shared) (Q : Value -> Shared -> Prop) (E : Value -> Shared -> Prop), tn i s.heap -> Q (.ref it) s -> wpAny (model P w) A (pyIter (.ref it)) Q E s
abbrev TI := St -> Hp -> (It -> Hp -> Prop) -> Prop
def PIE (X : Cx) (pins : List (Addr × Obj)) (σ : St) (tg : Expr) (R : It -> Hp -> Prop) (itv : Value) (s2 : Shared) : Prop :=
  ∃ (it : Addr) (fp : List Addr) (tn : Nat -> Heap -> Prop) (J : It) (H' : Hp), itv = .ref it /\ Inv X pins σ H' s2 /\ Turn X.prog X.w X.K tg J fp it tn /\ tn 0 s2.heap /\ (∀ b ∈ fp, FpOk X pins H' b) /\ R J H'
def PI (X : Cx) (tg iter : Expr) (wi : TI) : Prop :=
  ∀ (pins : List (Addr × Obj)) (s : Shared) (σ : St) (H : Hp) (R : It -> Hp -> Prop), Inv X pins σ H s -> wi σ H R ->
    wpAny (model X.prog X.w) X.A (eval iter X.env) (fun v s1 => wpAny (model X.prog X.w) X.A (pyIter v) (PIE X pins σ tg R) X.xe s1) X.xe s
theorem go_of {M : Model} {A : Around} {E : Value -> Shared -> Prop} {s : Shared} {tg : Expr} {it : Addr} {u : Value} {o : Obj} {n : String} {vs : Array Value} {Q : Unit -> Shared -> Prop} (ho : s.heap.get? it = some o) (hc : o.cls = .type n) (hd : o.data = .fields vs)
    (hn : ["enumerate", "zip", "dict_itemiterator", "dict_reverseitemiterator", "odict_iterator", "itertools.zip_longest", "itertools.pairwise"].contains n = false) (hQ : Q () s) : wpAny M A (letOwnedTupleGo tg (.ref it) u) Q E s := by
  unfold letOwnedTupleGo
  cases tg <;> first
    | exact wpAny_pure hQ
    | (cases u <;> first
        | exact wpAny_pure hQ
        | (refine wpAny_bind (wpAny_load ho ?_)
           rw [hc, hd]
           show wpAny M A (if (["enumerate", "zip", "dict_itemiterator", "dict_reverseitemiterator", "odict_iterator", "itertools.zip_longest", "itertools.pairwise"].contains n && vs[0]? == some (rawInt _)) = true then _ else _) Q E s
           rw [if_neg (by intro h; rw [hn, Bool.false_and] at h; cases h)]
           exact wpAny_pure hQ))
def Itl (K : PySem.W.Frag) (a : Addr) : It :=
  ⟨fun i H => ∃ xs x, SqL K H a xs /\ xs[i]? = some x, fun i H x H' => H' = H /\ ∀ xs, SqL K H a xs -> xs[i]? = some x, fun i H => ∃ xs, SqL K H a xs /\ xs.length <= i⟩
def Itt (K : PySem.W.Frag) (a : Addr) : It :=
  ⟨fun i H => ∃ xs x, SqT K H a xs /\ xs[i]? = some x, fun i H x H' => H' = H /\ ∀ xs, SqT K H a xs -> xs[i]? = some x, fun i H => ∃ xs, SqT K H a xs /\ xs.length <= i⟩
def Itr (lo : Int) (n : Nat) : It := ⟨fun i _ => i < n, fun i H x H' => H' = H /\ x = .int (lo + i), fun i _ => n <= i⟩
theorem turn_list {P : Program} {w : World} {K : PySem.W.Frag} {tg : Expr} (a it : Addr) : Turn P w K tg (Itl K a) [it] it (fun i h => h.IsListIter it a i) where
  mem := by simp
  obj := fun i h st b hb => by
    have e : b = it := by simpa using hb
    subst e
    obtain ⟨o, e, c, d⟩ := st
    exact ⟨o, e, fun v z => by rw [d] at z; cases z⟩
  keep := fun i h h' st k => st.at fun o e => k it (by simp) o e
  item := by
    intro X hP hw hK hc i pins s σ H E I hf st hg
    subst hP hw hK
    obtain ⟨xs, x, hq, hx⟩ := hg
    obtain ⟨its, rv, p, hz⟩ := I.list hq
    obtain ⟨u, hu, ru⟩ := rv.get hx
    obtain ⟨f0, f1, f2, f3, f4, f5⟩ := hf it (by simp)
    refine wpAny_pyNext_list_item st p.isList (x := u) (by simpa using hu) fun h' st' sb => ?_
    have I1 : Inv X pins σ H { s with heap := h' } := I.turned (t' := s.toks) (fun b o hb e => (sb.2 b hb).trans e) f0 f1 f3 f4 f5
    obtain ⟨o, e, c, d⟩ := id st'
    exact ⟨u, rfl, go_of (s := { s with heap := h' }) e c d (by decide) ⟨x, H, I1, ru, ⟨rfl, fun ys hy => by rw [I.list_inj hy hq]; exact hx⟩, st', fun b hb => (hf b hb).1⟩⟩
  done := by
    intro X hP hw hK hc i pins s σ H E I hf st hg
    subst hP hw hK
    obtain ⟨xs, hq, hx⟩ := hg
    obtain ⟨its, rv, p, hz⟩ := I.list hq
    obtain ⟨f0, f1, f2, f3, f4, f5⟩ := hf it (by simp)
    have hl := rv.length
    exact wpAny_pyNext_list_end (I.ok.hd hc) st p.isList (by simp; lia) fun h' eb => ⟨rfl, I.turned (t' := s.toks) (fun b o hb e => eb b o hb e) f0 f1 f3 f4 f5⟩
  self := fun _ _ _ _ _ st h => wpAny_pyIter_listiter st h
theorem turn_tuple {P : Program} {w : World} {K : PySem.W.Frag} {tg : Expr} (a it : Addr) : Turn P w K tg (Itt K a) [it] it (fun i h => h.IsTupleIter it a i) where
  mem := by simp
  obj := fun i h st b hb => by
    have e : b = it := by simpa using hb
    subst e
    obtain ⟨o, e, c, d⟩ := st
    exact ⟨o, e, fun v z => by rw [d] at z; cases z⟩
  keep := fun i h h' st k => st.at fun o e => k it (by simp) o e
  item := by
    intro X hP hw hK hc i pins s σ H E I hf st hg
    subst hP hw hK
    obtain ⟨xs, x, hq, hx⟩ := hg
    obtain ⟨its, rv, p, hz⟩ := I.tuple hq
    obtain ⟨u, hu, ru⟩ := rv.get hx
    obtain ⟨f0, f1, f2, f3, f4, f5⟩ := hf it (by simp)
    refine wpAny_pyNext_tuple_item st (show s.heap.IsTuple a its.toArray from p) (x := u) (by simpa using hu) fun h' st' sb => ?_
    have I1 : Inv X pins σ H { s with heap := h' } := I.turned (t' := s.toks) (fun b o hb e => (sb.2 b hb).trans e) f0 f1 f3 f4 f5
    obtain ⟨o, e, c, d⟩ := id st'
    exact ⟨u, rfl, go_of (s := { s with heap := h' }) e c d (by decide) ⟨x, H, I1, ru, ⟨rfl, fun ys hy => by rw [I.tuple_inj hy hq]; exact hx⟩, st', fun b hb => (hf b hb).1⟩⟩
  done := by
    intro X hP hw hK hc i pins s σ H E I hf st hg
    subst hP hw hK
    obtain ⟨xs, hq, hx⟩ := hg
    obtain ⟨its, rv, p, hz⟩ := I.tuple hq
    obtain ⟨f0, f1, f2, f3, f4, f5⟩ := hf it (by simp)
    have hl := rv.length
    exact wpAny_pyNext_tuple_end (I.ok.hd hc) st (show s.heap.IsTuple a its.toArray from p) (by simp; lia) fun h' eb => ⟨rfl, I.turned (t' := s.toks) (fun b o hb e => eb b o hb e) f0 f1 f3 f4 f5⟩
  self := fun _ _ _ _ _ st h => wpAny_pyIter_tupleiter st h
theorem turn_range {P : Program} {w : World} {K : PySem.W.Frag} {tg : Expr} (it : Addr) (lo : Int) (n : Nat) : Turn P w K tg (Itr lo n) [it] it (fun i h => IsRangeIter h it (lo + (i : Nat) * 1) ((n : Int) - (i : Nat)) 1) where
  mem := by simp
  obj := fun i h st b hb => by
    have e : b = it := by simpa using hb
    subst e
    exact ⟨_, st, fun v z => by
      have z' : Data.fields _ = Data.cell v := z
      cases z'⟩
  keep := fun i h h' st k => k it (by simp) _ st
  item := by
    intro X hP hw hK hc i pins s σ H E I hf st hg
    subst hP hw hK
    obtain ⟨f0, f1, f2, f3, f4, f5⟩ := hf it (by simp)
    have W := Walks.range (prog := X.prog) (w := X.w) (I.ok.hd hc) it lo 1 n
    refine W.item i s _ _ hg st fun v h' tk hv st' kk => ?_
    obtain ⟨t, rfl⟩ := hv
    have I1 : Inv X pins σ H { s with heap := h', toks := tk } := I.turned (fun b o hb e => kk b o (by simpa using hb) e) f0 f1 f3 f4 f5
    refine ⟨_, rfl, go_of (s := { s with heap := h', toks := tk }) (n := "range_iterator") st' rfl rfl (by decide) ⟨.int (lo + i), H, I1, ⟨t, ?_⟩, ⟨rfl, rfl⟩, st', fun b hb => (hf b hb).1⟩⟩
    rw [Int.mul_one]
  done := by
    intro X hP hw hK hc i pins s σ H E I hf st hg
    subst hP hw hK
    obtain ⟨f0, f1, f2, f3, f4, f5⟩ := hf it (by simp)
    exact wpAny_pyNext_range_end (I.ok.hd hc) st (by have : n <= i := hg; lia) fun h' eb => ⟨rfl, I.turned (t' := s.toks) (fun b o hb e => eb b o hb e) f0 f1 f3 f4 f5⟩
  self := fun _ _ _ _ _ st h => wpAny_pyIter_rangeiter st h
section
variable {X : Cx} {tg : Expr}
def iList (K : PySem.W.Frag) (tl : TE) : TI := fun σ H R => tl σ H fun x H1 => ∃ a, x = .ref a /\ (∃ xs, SqL K H1 a xs) /\ R (Itl K a) H1
def iTup (K : PySem.W.Frag) (tl : TE) : TI := fun σ H R => tl σ H fun x H1 => ∃ a, x = .ref a /\ (∃ xs, SqT K H1 a xs) /\ R (Itt K a) H1
theorem pi_list {l : Expr} {tl : TE} (hl : PE X l tl) : PI X tg l (iList X.K tl) := by
  intro pins s σ H R I h
  refine thn (hl pins s σ H _ I h) fun v s1 ⟨x, H1, I1, r1, q1⟩ => ?_
  obtain ⟨a, e, ⟨xs, hq⟩, q⟩ := q1
  subst e
  cases r1
  obtain ⟨its, rv, p, hz⟩ := I1.list hq
  refine wpAny_pyIter_list p.isList ?_
  refine ⟨s1.heap.objs.size, [s1.heap.objs.size], _, _, H1, rfl, I1.kept (t' := s1.toks) fun b o e => Heap.get?_push_of_some _ e, turn_list a _, ⟨_, Heap.get?_push_size _ rfl, rfl, rfl⟩, fun b hb => ?_, q⟩
  have e : b = s1.heap.objs.size := by simpa using hb
  subst e
  exact I1.fpOk (Nat.le_refl _) (I1.hok.fresh (Nat.le_refl _))
theorem pi_tup {l : Expr} {tl : TE} (hl : PE X l tl) : PI X tg l (iTup X.K tl) := by
  intro pins s σ H R I h
  refine thn (hl pins s σ H _ I h) fun v s1 ⟨x, H1, I1, r1, q1⟩ => ?_
  obtain ⟨a, e, ⟨xs, hq⟩, q⟩ := q1
  subst e
  cases r1
  obtain ⟨its, rv, p, hz⟩ := I1.tuple hq
  refine wpAny_pyIter_tuple (show s1.heap.IsTuple a its.toArray from p) ?_
  refine ⟨s1.heap.objs.size, [s1.heap.objs.size], _, _, H1, rfl, I1.kept (t' := s1.toks) fun b o e => Heap.get?_push_of_some _ e, turn_tuple a _, ⟨_, Heap.get?_push_size _ rfl, rfl, rfl⟩, fun b hb => ?_, q⟩
  have e : b = s1.heap.objs.size := by simpa using hb
  subst e
  exact I1.fpOk (Nat.le_refl _) (I1.hok.fresh (Nat.le_refl _))
theorem range_it {pins : List (Addr × Obj)} {σ : St} {H : Hp} {s : Shared} {R : It -> Hp -> Prop} {E : Value -> Shared -> Prop} {lo hi : Int} {t u v : Tok} {tk : Nat} (I : Inv X pins σ H s) (h1 : -(2 ^ 62) <= lo) (h2 : lo < 2 ^ 62) (h3 : -(2 ^ 62) <= hi) (h4 : hi < 2 ^ 62)
    (q : R (Itr lo (hi - lo).toNat) H) : wpAny (model X.prog X.w) X.A (pyIter (.ref s.heap.objs.size)) (PIE X pins σ tg R) E { s with heap := s.heap.push { cls := .type "range", data := .fields #[.int lo t, .int hi u, .int 1 v] }, toks := tk } := by
  refine wpAny_pyIter_range (IsRange.new ..) (small_one h1 h2 h3 h4) ?_
  have I1 : Inv X pins σ H { s with heap := s.heap.push { cls := .type "range", data := .fields #[.int lo t, .int hi u, .int 1 v] }, toks := tk } := I.kept fun b o e => Heap.get?_push_of_some _ e
  refine ⟨(s.heap.push { cls := .type "range", data := .fields #[.int lo t, .int hi u, .int 1 v] }).objs.size, [(s.heap.push { cls := .type "range", data := .fields #[.int lo t, .int hi u, .int 1 v] }).objs.size], _, _, H, rfl,
    I1.kept (t' := tk) fun b o e => Heap.get?_push_of_some _ e, turn_range _ lo (hi - lo).toNat, ?_, fun b hb => ?_, q⟩
  · have e1 : lo + ((0 : Nat) : Int) * 1 = lo := by simp
    have e2 : (((hi - lo).toNat : Nat) : Int) - ((0 : Nat) : Int) = Builtin.Range.rangeSize lo hi 1 := by rw [rangeSize_one]; split <;> lia
    show IsRangeIter _ _ (lo + ((0 : Nat) : Int) * 1) ((((hi - lo).toNat : Nat) : Int) - ((0 : Nat) : Int)) 1
    rw [e1, e2]
    exact Heap.get?_push_size _ rfl
  · have e : b = (s.heap.push { cls := .type "range", data := .fields #[.int lo t, .int hi u, .int 1 v] }).objs.size := by simpa using hb
    subst e
    exact I1.fpOk (Nat.le_refl _) (I1.hok.fresh (Nat.le_refl _))
def iRng1 (ta : TA) : TI := fun σ H R => ta σ H fun vs H1 => ∃ j : Int, vs = [.int j] /\ -(2 ^ 62) <= j /\ j < 2 ^ 62 /\ R (Itr 0 j.toNat) H1
theorem pi_range1 {a : Expr} {ta : TA} {p pos : Pos} (hg : Gl X "range") (hm : X.mg "range" = none) (ha : PA X [a] ta) (hs : starEach [a] X.env = [(false, eval a X.env)] := by rfl) : PI X tg (.Call (.Name "range" p) [a] [] pos) (iRng1 ta) := by
  intro pins s σ H R I h
  refine Call_ (ld_blt I hg hm boot_range (PyProof.Rows.callWith_type1 (thn (ha pos pins s σ H _ I h) fun us s1 ⟨vs, H1, I1, r1, q1⟩ => ?_) hs rfl))
  obtain ⟨j, e, q1, q2, q⟩ := q1
  subst e
  cases r1 with
  | cons r rr =>
    cases rr
    obtain ⟨t, rfl⟩ := r
    exact call_range_1 (range_it I1 (by lia) (by lia) q1 q2 (by simpa using q))
def tFor (wi : TI) (g : TG) (tb : TS) : TS := fun D σ H => wi σ H fun J H1 => ∃ W : Nat -> Nat -> St -> Hp -> Prop, (∃ m, W 0 m σ H1) /\ ∀ i m σ H, W i m σ H ->
  (J.stop i H /\ D.nx σ H) \/ (J.go i H /\ ∃ N : St -> Hp -> Prop, (∀ σ' H', N σ' H' -> ∃ m', m' < m /\ W (i + 1) m' σ' H') /\ ∀ x H', J.yld i H x H' -> g x σ H' fun σ2 H2 => tb { D with nx := N, ct := N, bk := D.nx } σ2 H2)
def pinsAt (fp : List Addr) (h : Heap) : List (Addr × Obj) := fp.filterMap fun b => (h.get? b).map fun o => (b, o)
theorem mem_pinsAt {fp : List Addr} {h : Heap} {b : Addr} {o : Obj} (hb : b ∈ fp) (e : h.get? b = some o) : (b, o) ∈ pinsAt fp h := List.mem_filterMap.mpr ⟨b, hb, by rw [e]; rfl⟩
theorem of_pinsAt {fp : List Addr} {h : Heap} {p : Addr × Obj} (hp : p ∈ pinsAt fp h) : p.1 ∈ fp /\ h.get? p.1 = some p.2 := by
  obtain ⟨b, hb, e⟩ := List.mem_filterMap.mp hp
  cases q : h.get? b with
  | none => rw [q] at e; cases e
  | some o =>
    rw [q] at e
    have e' : (b, o) = p := Option.some.inj e
    subst e'
    exact ⟨hb, q⟩
theorem Inv.pinned {pins : List (Addr × Obj)} {σ : St} {H : Hp} {s : Shared} {fp : List Addr} (I : Inv X pins σ H s) (hf : ∀ b ∈ fp, FpOk X pins H b) (ho : ∀ b ∈ fp, ∃ o, s.heap.get? b = some o /\ ∀ v, o.data ≠ .cell v) : Inv X (pins ++ pinsAt fp s.heap) σ H s :=
  I.pins_of fun p hp => (List.mem_append.mp hp).elim (fun z => I.pin p (List.mem_append_right _ z)) fun z => by
    obtain ⟨hb, e⟩ := of_pinsAt z
    obtain ⟨f0, f1, f2, _⟩ := hf p.1 hb
    obtain ⟨o, e', d⟩ := ho p.1 hb
    rw [e] at e'; cases e'
    exact ⟨e, f0, f1, f2, d⟩
theorem Inv.unpinned {pins pl : List (Addr × Obj)} {σ : St} {H : Hp} {s : Shared} (I : Inv X (pins ++ pl) σ H s) : Inv X pins σ H s := I.pins_of fun p hp => I.pin p (List.mem_append_right _ (List.mem_append_left _ hp))
theorem ps_for {iter : Expr} {body : List Stmt} {wi : TI} {g : TG} {tb : TS} {pos : Pos} (hp : PassesOwn (model X.prog X.w) X.A X.env X.xe) (hc : X.calm = true) (hi : PI X tg iter wi) (hg : PG X tg g) (hb : PSs X body tb)
    (hs : ∀ x, foldedSetIterable iter X.env x = pure x := by intro _; rfl) : PS X (.For tg iter body [] pos) (tFor wi g tb) := by
  intro pins s σ H D I h
  refine wpAny_For (thn (hi pins s σ H _ I h) fun v s1 h1 => thn h1 fun itv s2 h2 => ?_) hs
  obtain ⟨it, fp, tn, J, H2, e, I2, T, st2, f2, W, ⟨m0, w0⟩, turn⟩ := h2
  subst e
  have stat : ∀ {H' : Hp}, (∀ b ∈ fp, H' b = none) -> ∀ b ∈ fp, FpOk X pins H' b := fun hn b hb => ⟨hn b hb, (f2 b hb).2⟩
  refine codeAny_forLoop_any (fun n s' => ∃ i σ' H', Inv X pins σ' H' s' /\ tn i s'.heap /\ (∀ b ∈ fp, H' b = none) /\ W i n σ' H') ?_ m0 ⟨0, σ, H2, I2, st2, fun b hb => (f2 b hb).1, w0⟩
  rintro n s3 ⟨i, σ3, H3, I3, st3, fr3, w3⟩
  rcases turn i n σ3 H3 w3 with ⟨stop, qn⟩ | ⟨go, N, hN, step⟩
  · refine wpAny_passesOwn hp (thn (T.done X rfl rfl rfl hc i pins s3 σ3 H3 X.xe I3 (stat fr3) st3 stop) fun r s4 ⟨hr, I4⟩ => ?_)
    subst hr
    exact wpAny_execs_nil ⟨σ3, H3, I4, qn⟩
  · refine wpAny_passesOwn hp (thn (T.item X rfl rfl rfl hc i pins s3 σ3 H3 X.xe I3 (stat fr3) st3 go) fun r s4 ⟨u, hr, h4⟩ => ?_)
    subst hr
    refine wpAny_passesOwn hp (thn h4 fun _ s5 ⟨x, H5, I5, r5, y5, st5, fr5⟩ => ?_)
    have I5' := I5.pinned (stat fr5) (T.obj _ _ st5)
    refine wpAny_passesOwn hp (thn (hg _ s5 σ3 H5 x u _ I5' r5 (step x H5 y5)) fun _ s6 ⟨σ6, H6, I6, q6⟩ => ?_)
    refine wpAny_passesOwn hp (thn (hb _ s6 σ6 H6 _ I6 q6) fun f s7 q7 => ?_)
    have again : ∀ {σ7 : St} {H7 : Hp}, Inv X (pins ++ pinsAt fp s5.heap) σ7 H7 s7 -> N σ7 H7 -> ∃ m, m < n /\ ∃ i σ' H', Inv X pins σ' H' s7 /\ tn i s7.heap /\ (∀ b ∈ fp, H' b = none) /\ W i m σ' H' := fun {σ7 H7} I7 n7 => by
      obtain ⟨m', hm, w7⟩ := hN σ7 H7 n7
      refine ⟨m', hm, i + 1, σ7, H7, I7.unpinned, T.keep _ _ _ st5 fun b hb o e => (I7.pin (b, o) (List.mem_append_right _ (List.mem_append_right _ (mem_pinsAt hb e)))).1, fun b hb => ?_, w7⟩
      obtain ⟨o, e, d⟩ := T.obj _ _ st5 b hb
      exact (I7.pin (b, o) (List.mem_append_right _ (List.mem_append_right _ (mem_pinsAt hb e)))).2.1
    cases f with
    | next => obtain ⟨σ7, H7, I7, n7⟩ := q7; exact again I7 n7
    | cont => obtain ⟨σ7, H7, I7, n7⟩ := q7; exact again I7 n7
    | brk => obtain ⟨σ7, H7, I7, q7⟩ := q7; exact ⟨σ7, H7, I7.unpinned, q7⟩
    | ret v => obtain ⟨x7, σ7, H7, I7, r7, q7⟩ := q7; exact ⟨x7, σ7, H7, I7.unpinned, r7, q7⟩
end
theorem for_list {K : PySem.W.Frag} {a : Addr} {xs : List V} {g : TG} {tb : TS} {D : Ends} {σ : St} {H : Hp} (Pv : Nat -> St -> Hp -> Prop) (h0 : Pv 0 σ H) (hl : ∀ i σ H, i <= xs.length -> Pv i σ H -> SqL K H a xs)
    (hs : ∀ i x σ H, xs[i]? = some x -> Pv i σ H -> g x σ H fun σ2 H2 => tb { D with nx := Pv (i + 1), ct := Pv (i + 1), bk := D.nx } σ2 H2) (hd : ∀ σ H, Pv xs.length σ H -> D.nx σ H) :
    ∃ W : Nat -> Nat -> St -> Hp -> Prop, (∃ m, W 0 m σ H) /\ ∀ i m σ H, W i m σ H ->
      ((Itl K a).stop i H /\ D.nx σ H) \/ ((Itl K a).go i H /\ ∃ N : St -> Hp -> Prop, (∀ σ' H', N σ' H' -> ∃ m', m' < m /\ W (i + 1) m' σ' H') /\ ∀ x H', (Itl K a).yld i H x H' -> g x σ H' fun σ2 H2 => tb { D with nx := N, ct := N, bk := D.nx } σ2 H2) := by
  refine ⟨fun i m σ H => m = xs.length - i /\ i <= xs.length /\ Pv i σ H, ⟨xs.length, by simp, Nat.zero_le _, h0⟩, ?_⟩
  rintro i m σ H ⟨rfl, hi, p⟩
  have q := hl i σ H hi p
  by_cases hlt : i < xs.length
  · refine .inr ⟨⟨xs, xs[i], q, by simp [hlt]⟩, Pv (i + 1), fun σ' H' p' => ⟨xs.length - (i + 1), by lia, rfl, hlt, p'⟩, fun x H' y => ?_⟩
    obtain ⟨e, y⟩ := y
    subst e
    exact hs i x σ _ (y xs q) p
  · have e : i = xs.length := by lia
    subst e
    exact .inl ⟨⟨xs, q, Nat.le_refl _⟩, hd σ H p⟩
theorem for_tup {K : PySem.W.Frag} {a : Addr} {xs : List V} {g : TG} {tb : TS} {D : Ends} {σ : St} {H : Hp} (Pv : Nat -> St -> Hp -> Prop) (h0 : Pv 0 σ H) (hl : ∀ i σ H, i <= xs.length -> Pv i σ H -> SqT K H a xs)
    (hs : ∀ i x σ H, xs[i]? = some x -> Pv i σ H -> g x σ H fun σ2 H2 => tb { D with nx := Pv (i + 1), ct := Pv (i + 1), bk := D.nx } σ2 H2) (hd : ∀ σ H, Pv xs.length σ H -> D.nx σ H) :
    ∃ W : Nat -> Nat -> St -> Hp -> Prop, (∃ m, W 0 m σ H) /\ ∀ i m σ H, W i m σ H ->
      ((Itt K a).stop i H /\ D.nx σ H) \/ ((Itt K a).go i H /\ ∃ N : St -> Hp -> Prop, (∀ σ' H', N σ' H' -> ∃ m', m' < m /\ W (i + 1) m' σ' H') /\ ∀ x H', (Itt K a).yld i H x H' -> g x σ H' fun σ2 H2 => tb { D with nx := N, ct := N, bk := D.nx } σ2 H2) := by
  refine ⟨fun i m σ H => m = xs.length - i /\ i <= xs.length /\ Pv i σ H, ⟨xs.length, by simp, Nat.zero_le _, h0⟩, ?_⟩
  rintro i m σ H ⟨rfl, hi, p⟩
  have q := hl i σ H hi p
  by_cases hlt : i < xs.length
  · refine .inr ⟨⟨xs, xs[i], q, by simp [hlt]⟩, Pv (i + 1), fun σ' H' p' => ⟨xs.length - (i + 1), by lia, rfl, hlt, p'⟩, fun x H' y => ?_⟩
    obtain ⟨e, y⟩ := y
    subst e
    exact hs i x σ _ (y xs q) p
  · have e : i = xs.length := by lia
    subst e
    exact .inl ⟨⟨xs, q, Nat.le_refl _⟩, hd σ H p⟩
theorem for_range {lo : Int} {n : Nat} {g : TG} {tb : TS} {D : Ends} {σ : St} {H : Hp} (Pv : Nat -> St -> Hp -> Prop) (h0 : Pv 0 σ H)
    (hs : ∀ i σ H, i < n -> Pv i σ H -> g (.int (lo + i)) σ H fun σ2 H2 => tb { D with nx := Pv (i + 1), ct := Pv (i + 1), bk := D.nx } σ2 H2) (hd : ∀ σ H, Pv n σ H -> D.nx σ H) :
    ∃ W : Nat -> Nat -> St -> Hp -> Prop, (∃ m, W 0 m σ H) /\ ∀ i m σ H, W i m σ H ->
      ((Itr lo n).stop i H /\ D.nx σ H) \/ ((Itr lo n).go i H /\ ∃ N : St -> Hp -> Prop, (∀ σ' H', N σ' H' -> ∃ m', m' < m /\ W (i + 1) m' σ' H') /\ ∀ x H', (Itr lo n).yld i H x H' -> g x σ H' fun σ2 H2 => tb { D with nx := N, ct := N, bk := D.nx } σ2 H2) := by
  refine ⟨fun i m σ H => m = n - i /\ i <= n /\ Pv i σ H, ⟨n, by simp, Nat.zero_le _, h0⟩, ?_⟩
  rintro i m σ H ⟨rfl, hi, p⟩
  by_cases hlt : i < n
  · refine .inr ⟨hlt, Pv (i + 1), fun σ' H' p' => ⟨n - (i + 1), by lia, rfl, hlt, p'⟩, fun x H' y => ?_⟩
    obtain ⟨e, y⟩ := y
    subst e y
    exact hs i σ _ hlt p
  · have e : i = n := by lia
    subst e
    exact .inl ⟨Nat.le_refl _, hd σ H p⟩
abbrev R2 := V -> V -> Hp -> VK -> Prop
def OpR (X : Cx) (f : Value -> Value -> Sem Value) (r : R2) : Prop :=
  ∀ (pins : List (Addr × Obj)) (s : Shared) (σ : St) (H : Hp) (x y : V) (v u : Value) (Q : VK), Inv X pins σ H s -> RelV x v -> RelV y u -> r x y H Q ->
    wpAny (model X.prog X.w) X.A (f v u) (EP X pins σ Q) X.xe s
def UnR (X : Cx) (f : Value -> Sem Value) (r : V -> Hp -> VK -> Prop) : Prop :=
  ∀ (pins : List (Addr × Obj)) (s : Shared) (σ : St) (H : Hp) (x : V) (v : Value) (Q : VK), Inv X pins σ H s -> RelV x v -> r x H Q ->
    wpAny (model X.prog X.w) X.A (f v) (EP X pins σ Q) X.xe s
def CallR (X : Cx) (f : Value) (r : List V -> Hp -> VK -> Prop) : Prop :=
  ∀ (pins : List (Addr × Obj)) (s : Shared) (σ : St) (H : Hp) (xs : List V) (us : List Value) (Q : VK), Inv X pins σ H s -> Vals xs us -> r xs H Q ->
    wpAny (model X.prog X.w) X.A (call f us) (EP X pins σ Q) X.xe s
def TruR (X : Cx) (r : V -> Hp -> (Bool -> Hp -> Prop) -> Prop) : Prop :=
  ∀ (pins : List (Addr × Obj)) (s : Shared) (σ : St) (H : Hp) (x : V) (v : Value) (Q : Bool -> Hp -> Prop), Inv X pins σ H s -> RelV x v -> r x H Q ->
    wpAny (model X.prog X.w) X.A (truthy v) (TP X pins σ Q) X.xe s
def tOp (r : R2) (ta tb : TE) : TE := fun σ H Q => ta σ H fun x H1 => tb σ H1 fun y H2 => r x y H2 Q
def tUn (r : V -> Hp -> VK -> Prop) (ta : TE) : TE := fun σ H Q => ta σ H fun x H1 => r x H1 Q
def rI (C : Int -> Int -> Prop) (g : Int -> Int -> V) : R2 := fun x y H Q => ∃ i j, x = .int i /\ y = .int j /\ C i j /\ Q (g i j) H
def rI0 (g : Int -> Int -> V) : R2 := fun x y H Q => ∃ i j, x = .int i /\ y = .int j /\ Q (g i j) H
def rU (g : Int -> V) : V -> Hp -> VK -> Prop := fun x H Q => ∃ i, x = .int i /\ Q (g i) H
section
variable {X : Cx} {a b c : Expr} {ta tb tc : TE} {pos : Pos}
theorem binT (ha : PE X a ta) (hb : PE X b tb) {pins : List (Addr × Obj)} {s : Shared} {σ : St} {H : Hp} {R : V -> V -> Hp -> Prop} (I : Inv X pins σ H s)
    (h : ta σ H fun x H1 => tb σ H1 fun y H2 => R x y H2) {Q : Value -> Shared -> Prop} {f : Value -> Value -> Sem Value}
    (hf : ∀ v u s2 x y H2, Inv X pins σ H2 s2 -> RelV x v -> RelV y u -> R x y H2 -> wpAny (model X.prog X.w) X.A (f v u) Q X.xe s2) :
    wpAny (model X.prog X.w) X.A (eval a X.env) (fun v s₁ => wpAny (model X.prog X.w) X.A (eval b X.env) (fun u s₂ => wpAny (model X.prog X.w) X.A (f v u) Q X.xe s₂) X.xe s₁) X.xe s := by
  refine thn (ha pins s σ H _ I h) fun v s1 ⟨x, H1, I1, r1, q1⟩ => ?_
  refine thn (hb pins s1 σ H1 _ I1 q1) fun u s2 ⟨y, H2, I2, r2, q2⟩ => ?_
  exact hf v u s2 x y H2 I2 r1 r2 q2
theorem pe_op {op : Operator} {r : R2} (ho : OpR X (binaryOp op) r) (ha : PE X a ta) (hb : PE X b tb) : PE X (.BinOp a op b pos) (tOp r ta tb) := by
  intro pins s σ H Q I h
  exact wpAny_BinOp (binT ha hb I h fun v u s2 x y H2 I2 rx ry q => ho pins s2 σ H2 x y v u Q I2 rx ry q)
theorem pe_un {op : UnaryOp} {r : V -> Hp -> VK -> Prop} (ho : UnR X (unaryOp op) r) (ha : PE X a ta) : PE X (.UnaryOp op a pos) (tUn r ta) := by
  intro pins s σ H Q I h
  exact UnaryOp_ (thn (ha pins s σ H _ I h) fun v s1 ⟨x, H1, I1, r1, q1⟩ => ho pins s1 σ H1 x v Q I1 r1 q1)
theorem opI {f : Value -> Value -> Sem Value} {C : Int -> Int -> Prop} {g : Int -> Int -> Int}
    (rule : ∀ (i j : Int) (t u : Tok) (s : Shared) (Q : Value -> Shared -> Prop) (E : Value -> Shared -> Prop), C i j -> Q (.int (g i j) s.toks) { s with toks := s.toks + 1 } -> wpAny (model X.prog X.w) X.A (f (.int i t) (.int j u)) Q E s) :
    OpR X f (rI C fun i j => .int (g i j)) := by
  intro pins s σ H x y v u Q I rx ry h
  obtain ⟨i, j, rfl, rfl, hc, q⟩ := h
  obtain ⟨t, rfl⟩ := rx
  obtain ⟨t', rfl⟩ := ry
  exact rule i j t t' s _ _ hc ⟨.int (g i j), H, I.tok _, ⟨_, rfl⟩, q⟩
theorem opI0 {f : Value -> Value -> Sem Value} {g : Int -> Int -> Int}
    (rule : ∀ (i j : Int) (t u : Tok) (s : Shared) (Q : Value -> Shared -> Prop) (E : Value -> Shared -> Prop), Q (.int (g i j) s.toks) { s with toks := s.toks + 1 } -> wpAny (model X.prog X.w) X.A (f (.int i t) (.int j u)) Q E s) :
    OpR X f (rI0 fun i j => .int (g i j)) := by
  intro pins s σ H x y v u Q I rx ry h
  obtain ⟨i, j, rfl, rfl, q⟩ := h
  obtain ⟨t, rfl⟩ := rx
  obtain ⟨t', rfl⟩ := ry
  exact rule i j t t' s _ _ ⟨.int (g i j), H, I.tok _, ⟨_, rfl⟩, q⟩
theorem opB0 {f : Value -> Value -> Sem Value} {g : Int -> Int -> Bool}
    (rule : ∀ (i j : Int) (t u : Tok) (s : Shared) (Q : Value -> Shared -> Prop) (E : Value -> Shared -> Prop), Q (.bool (g i j)) s -> wpAny (model X.prog X.w) X.A (f (.int i t) (.int j u)) Q E s) :
    OpR X f (rI0 fun i j => .bl (g i j)) := by
  intro pins s σ H x y v u Q I rx ry h
  obtain ⟨i, j, rfl, rfl, q⟩ := h
  obtain ⟨t, rfl⟩ := rx
  obtain ⟨t', rfl⟩ := ry
  exact rule i j t t' s _ _ ⟨.bl (g i j), H, I, rfl, q⟩
def CDiv (i j : Int) : Prop := 0 < j /\ j < 1073741824
def CPow (i j : Int) : Prop := 0 <= j /\ j <= 1000000 /\ i.natAbs < 2 ^ 64
def CMul (i j : Int) : Prop := (-(2 ^ 64) < i /\ i < 2 ^ 64) \/ (-(2 ^ 64) < j /\ j < 2 ^ 64)
theorem CMul.ok {i j : Int} (h : CMul i j) : IntMulOk i j := by
  rcases h with ⟨h1, h2⟩ | ⟨h1, h2⟩
  · exact .of_left (intBits_le_64 h1 h2)
  · exact .of_right (intBits_le_64 h1 h2)
theorem op_add : OpR X (binaryOp .Add) (rI0 fun i j => .int (i + j)) := opI0 fun _ _ _ _ _ _ _ q => add_int q
theorem op_sub : OpR X (binaryOp .Sub) (rI0 fun i j => .int (i - j)) := opI0 fun _ _ _ _ _ _ _ q => sub_int q
theorem op_mul : OpR X (binaryOp .Mult) (rI CMul fun i j => .int (i * j)) := opI fun _ _ _ _ _ _ _ hc q => mul_int q hc.ok
theorem op_fdiv : OpR X (binaryOp .FloorDiv) (rI CDiv fun i j => .int (i / j)) := opI fun i j _ _ _ _ _ hc q => by
  have h1 : (0 : Int) < j := hc.1
  have h2 : j < 1073741824 := hc.2
  exact floordiv_int (by lia) (by rw [Int.fdiv_eq_ediv_of_nonneg i (by lia)]; exact q) (.inl (PyProof.noPylong_small (by lia)))
theorem op_mod : OpR X (binaryOp .Mod) (rI (fun _ j => 0 < j) fun i j => .int (i % j)) := opI fun i j _ _ _ _ _ hc q => by
  have h1 : (0 : Int) < j := hc
  exact mod_int' (by lia) (by rw [Int.fmod_eq_emod_of_nonneg i (by lia)]; exact q)
theorem op_pow : OpR X (binaryOp .Pow) (rI CPow fun i j => .int (i ^ j.toNat)) := opI fun _ _ _ _ _ _ _ hc q => pow_int_small hc.1 hc.2.1 hc.2.2 q
theorem unI {f : Value -> Sem Value} {g : Int -> Int}
    (rule : ∀ (i : Int) (t : Tok) (s : Shared) (Q : Value -> Shared -> Prop) (E : Value -> Shared -> Prop), Q (.int (g i) s.toks) { s with toks := s.toks + 1 } -> wpAny (model X.prog X.w) X.A (f (.int i t)) Q E s) :
    UnR X f (rU fun i => .int (g i)) := by
  intro pins s σ H x v Q I rx h
  obtain ⟨i, rfl, q⟩ := h
  obtain ⟨t, rfl⟩ := rx
  exact rule i t s _ _ ⟨.int (g i), H, I.tok _, ⟨_, rfl⟩, q⟩
theorem un_neg : UnR X (unaryOp .USub) (rU fun i => .int (-i)) := unI fun _ _ _ _ _ q => neg_int q
end
def scal : V -> V -> Bool
  | .non, .non => true | .non, .int _ => true | .int _, .non => true | .non, .bl _ => true | .bl _, .non => true | .non, .str _ => true | .str _, .non => true
  | .int _, .int _ => true | .bl _, .bl _ => true | .str _, .str _ => true | .byt _, .byt _ => true
  | .int _, .str _ => true | .str _, .int _ => true | .bl _, .str _ => true | .str _, .bl _ => true
  | _, _ => false
def rEq : R2 := fun x y H Q => scal x y = true /\ Q (.bl (decide (x = y))) H
def rNe : R2 := fun x y H Q => scal x y = true /\ Q (.bl (!decide (x = y))) H
theorem dec_int {i j : Int} : decide (V.int i = V.int j) = (i == j) := by
  rw [Bool.eq_iff_iff]
  simp
theorem dec_bl {i j : Bool} : decide (V.bl i = V.bl j) = (i == j) := by
  rw [Bool.eq_iff_iff]
  simp
theorem dec_str {i j : Str} : decide (V.str i = V.str j) = (i == j) := by
  rw [Bool.eq_iff_iff]
  simp
theorem dec_byt {i j : Array UInt8} : decide (V.byt i = V.byt j) = (i.toList == j.toList) := by
  rw [Bool.eq_iff_iff]
  cases i
  cases j
  simp
section
variable {X : Cx} {a b c : Expr} {ta tb tc : TE} {pos : Pos}
theorem fin_bl {pins : List (Addr × Obj)} {σ : St} {H : Hp} {s : Shared} {Q : VK} {k k' : Bool} (I : Inv X pins σ H s) (q : Q (.bl k) H) (e : k = k') : EP X pins σ Q (.bool k') s := by
  subst e
  exact ⟨.bl k, H, I, rfl, q⟩
theorem op_eq : OpR X (compareOp .Eq) rEq := by
  intro pins s σ H x y v u Q I rx ry h
  obtain ⟨hs, q⟩ := h
  cases x with
  | non =>
    cases rx
    cases y with
    | non => cases ry; exact PySem.EqNone.eq_none_none (fin_bl I q (by simp))
    | bl j => cases ry; exact PySem.EqNone.eq_none_bool (fin_bl I q (by simp))
    | int j => obtain ⟨t', rfl⟩ := ry; exact PySem.EqNone.eq_none_int (fin_bl I q (by simp))
    | str j => obtain ⟨t', rfl⟩ := ry; exact PySem.EqNone.eq_none_str (fin_bl I q (by simp))
    | _ => exact absurd (show false = true from hs) Bool.false_ne_true
  | bl i =>
    cases rx
    cases y with
    | non => cases ry; exact PySem.EqNone.eq_bool_none (fin_bl I q (by simp))
    | bl j => cases ry; exact eq_bool (fin_bl I q dec_bl)
    | str j => obtain ⟨t', rfl⟩ := ry; exact PySem.EqMixed.eq_bool_str (fin_bl I q (by simp))
    | _ => exact absurd (show false = true from hs) Bool.false_ne_true
  | int i =>
    obtain ⟨t, rfl⟩ := rx
    cases y with
    | non => cases ry; exact PySem.EqNone.eq_int_none (fin_bl I q (by simp))
    | int j => obtain ⟨t', rfl⟩ := ry; exact eq_int (fin_bl I q dec_int)
    | str j => obtain ⟨t', rfl⟩ := ry; exact PySem.EqMixed.eq_int_str (fin_bl I q (by simp))
    | _ => exact absurd (show false = true from hs) Bool.false_ne_true
  | str i =>
    obtain ⟨t, rfl⟩ := rx
    cases y with
    | non => cases ry; exact PySem.EqNone.eq_str_none (fin_bl I q (by simp))
    | bl j => cases ry; exact PySem.EqMixed.eq_str_bool (fin_bl I q (by simp))
    | int j => obtain ⟨t', rfl⟩ := ry; exact PySem.EqMixed.eq_str_int (fin_bl I q (by simp))
    | str j => obtain ⟨t', rfl⟩ := ry; exact eq_str (fin_bl I q dec_str)
    | _ => exact absurd (show false = true from hs) Bool.false_ne_true
  | byt i =>
    obtain ⟨t, rfl⟩ := rx
    cases y with
    | byt j => obtain ⟨t', rfl⟩ := ry; exact PySem.W.eq_bytes (fin_bl I q dec_byt)
    | _ => exact absurd (show false = true from hs) Bool.false_ne_true
  | _ => cases y <;> exact absurd (show false = true from hs) Bool.false_ne_true
theorem op_ne : OpR X (compareOp .NotEq) rNe := by
  intro pins s σ H x y v u Q I rx ry h
  obtain ⟨hs, q⟩ := h
  cases x with
  | non =>
    cases rx
    cases y with
    | non => cases ry; exact PySem.EqNone.ne_none_none (fin_bl I q (by simp))
    | bl j => cases ry; exact PySem.EqNone.ne_none_bool (fin_bl I q (by simp))
    | int j => obtain ⟨t', rfl⟩ := ry; exact PySem.EqNone.ne_none_int (fin_bl I q (by simp))
    | str j => obtain ⟨t', rfl⟩ := ry; exact PySem.EqNone.ne_none_str (fin_bl I q (by simp))
    | _ => exact absurd (show false = true from hs) Bool.false_ne_true
  | bl i =>
    cases rx
    cases y with
    | non => cases ry; exact PySem.EqNone.ne_bool_none (fin_bl I q (by simp))
    | bl j => cases ry; exact ne_bool (fin_bl I q (congrArg not dec_bl))
    | str j => obtain ⟨t', rfl⟩ := ry; exact PySem.EqMixed.ne_bool_str (fin_bl I q (by simp))
    | _ => exact absurd (show false = true from hs) Bool.false_ne_true
  | int i =>
    obtain ⟨t, rfl⟩ := rx
    cases y with
    | non => cases ry; exact PySem.EqNone.ne_int_none (fin_bl I q (by simp))
    | int j => obtain ⟨t', rfl⟩ := ry; exact ne_int (fin_bl I q (congrArg not dec_int))
    | str j => obtain ⟨t', rfl⟩ := ry; exact PySem.EqMixed.ne_int_str (fin_bl I q (by simp))
    | _ => exact absurd (show false = true from hs) Bool.false_ne_true
  | str i =>
    obtain ⟨t, rfl⟩ := rx
    cases y with
    | non => cases ry; exact PySem.EqNone.ne_str_none (fin_bl I q (by simp))
    | bl j => cases ry; exact PySem.EqMixed.ne_str_bool (fin_bl I q (by simp))
    | int j => obtain ⟨t', rfl⟩ := ry; exact PySem.EqMixed.ne_str_int (fin_bl I q (by simp))
    | str j => obtain ⟨t', rfl⟩ := ry; exact ne_str (fin_bl I q (congrArg not dec_str))
    | _ => exact absurd (show false = true from hs) Bool.false_ne_true
  | byt i =>
    obtain ⟨t, rfl⟩ := rx
    cases y with
    | byt j => obtain ⟨t', rfl⟩ := ry; exact PySem.W.ne_bytes (fin_bl I q (congrArg not dec_byt))
    | _ => exact absurd (show false = true from hs) Bool.false_ne_true
  | _ => cases y <;> exact absurd (show false = true from hs) Bool.false_ne_true
theorem op_lt : OpR X (compareOp .Lt) (rI0 fun i j => .bl (decide (i < j))) := opB0 fun _ _ _ _ _ _ _ q => lt_int q
theorem op_le : OpR X (compareOp .LtE) (rI0 fun i j => .bl (decide (i <= j))) := opB0 fun _ _ _ _ _ _ _ q => le_int q
theorem op_gt : OpR X (compareOp .Gt) (rI0 fun i j => .bl (decide (j < i))) := opB0 fun _ _ _ _ _ _ _ q => gt_int q
theorem op_in_str : OpR X (compareOp .In) (fun x y H Q => ∃ i j, x = .str i /\ y = .str j /\ Q (.bl (!(Builtin.Str.occurrences j i 0 j.length 1).isEmpty)) H) := by
  intro pins s σ H x y v u Q I rx ry h
  obtain ⟨i, j, rfl, rfl, q⟩ := h
  obtain ⟨t, rfl⟩ := rx
  obtain ⟨t', rfl⟩ := ry
  exact in_str (fin_bl I q rfl)
theorem nomark (b : Expr) {op : CmpOp} (h : op ≠ .In := by decide) (h2 : op ≠ .NotIn := by decide) : behindInMarks op b = false := by
  have e1 : (op == CmpOp.In) = false := by cases op <;> first | rfl | exact absurd rfl h
  have e2 : (op == CmpOp.NotIn) = false := by cases op <;> first | rfl | exact absurd rfl h2
  cases b <;> simp [behindInMarks, e1, e2]
theorem pe_cmpR {op : CmpOp} {r : R2} (ho : OpR X (compareOp op) r) (ha : PE X a ta) (hb : PE X b tb) (hm : behindInMarks op b = false) : PE X (.Compare a [op] [b] pos) (tOp r ta tb) := by
  intro pins s σ H Q I h
  exact wpAny_Compare1 (binT ha hb I h fun v u s2 x y H2 I2 rx ry q => ho pins s2 σ H2 x y v u Q I2 rx ry q) hm
def tTest (t : TE) : TT := fun σ H Q => t σ H fun x H' => ∃ k, x = .bl k /\ Q k H'
theorem pt_cmpR {op : CmpOp} {r : R2} (ho : OpR X (compareOp op) r) (ha : PE X a ta) (hb : PE X b tb) (hm : behindInMarks op b = false) : PT X (.Compare a [op] [b] pos) (tTest (tOp r ta tb)) := by
  intro pins s σ H Q I h
  refine wpAny_isTrue_Compare1 (thn (ha pins s σ H _ I h) fun v s1 ⟨x, H1, I1, r1, q1⟩ => thn (hb pins s1 σ H1 _ I1 q1) fun u s2 ⟨y, H2, I2, r2, q2⟩ =>
    thn (ho pins s2 σ H2 x y v u _ I2 r1 r2 q2) fun c s3 ⟨z, H3, I3, r3, k, e, q3⟩ => ?_) hm
  subst e
  cases r3
  exact wpAny_truthy_bool ⟨H3, I3, q3⟩
def tChain (r r' : R2) (ta tb tc : TE) : TE := fun σ H Q => ta σ H fun x H1 => tb σ H1 fun y H2 => r x y H2 fun z H3 => ∃ k, z = .bl k /\
  (if k = true then tc σ H3 fun w' H4 => r' y w' H4 Q else Q (.bl false) H3)
theorem pt_chain {op op' : CmpOp} {r r' : R2} (ho : OpR X (compareOp op) r) (ho' : OpR X (compareOp op') r') (ha : PE X a ta) (hb : PE X b tb) (hc : PE X c tc)
    (hm : lastMarks [op, op'] [b, c] = false := by with_unfolding_all rfl) : PT X (.Compare a [op, op'] [b, c] pos) (tTest (tChain r r' ta tb tc)) := by
  intro pins s σ H Q I h
  refine isTrue_chain (thn (ha pins s σ H _ I h) fun v s1 ⟨x, H1, I1, r1, q1⟩ => test_link (thn (hb pins s1 σ H1 _ I1 q1) fun u s2 ⟨y, H2, I2, r2, q2⟩ =>
    thn (ho pins s2 σ H2 x y v u _ I2 r1 r2 q2) fun d s3 ⟨z, H3, I3, r3, k, e, q3⟩ => ?_)) hm
  subst e
  cases r3
  refine wpAny_truthy_bool ?_
  cases k with
  | false =>
    obtain ⟨k', e', q'⟩ := q3
    cases e'
    exact ite_ff ⟨H3, I3, q'⟩
  | true =>
    refine ite_tt (test_last (thn (hc pins s3 σ H3 _ I3 q3) fun w' s4 ⟨z', H4, I4, r4, q4⟩ => thn (ho' pins s4 σ H4 y z' u w' _ I4 r2 r4 q4) fun d' s5 ⟨z2, H5, I5, r5, k2, e2, q5⟩ => ?_))
    subst e2
    cases r5
    exact wpAny_truthy_bool ⟨H5, I5, q5⟩
def TruV (K : PySem.W.Frag) (x : V) (H : Hp) (k : Bool) : Prop :=
  match x with
  | .non => k = false
  | .bl b => k = b
  | .int i => k = (i != 0)
  | .str y => y.length <= sizeLine /\ k = ((y.length : Int) != 0)
  | .byt y => y.size <= sizeLine /\ k = ((y.size : Int) != 0)
  | .ref p => (∃ xs, SqL K H p xs /\ k = !xs.isEmpty) \/ (∃ xs, SqT K H p xs /\ k = !xs.isEmpty) \/ ∃ kvs, H p = some (.dK kvs) /\ k = !kvs.isEmpty
  | _ => False
theorem isEmpty_kv {κ : Type} {kvs : List (κ × V)} {vs : List (κ × Value)} (r : KV kvs vs) : (!vs.isEmpty) = !kvs.isEmpty := by
  cases r <;> rfl
theorem isEmpty_of {xs : List V} {its : List Value} (r : Vals xs its) : (!its.toArray.isEmpty) = !xs.isEmpty := by
  cases r <;> simp
theorem line63 : (sizeLine : Nat) < 2 ^ 63 := by rw [sizeLine_eq]; decide
theorem tru_ok : TruR X (fun x H Q => ∃ k, TruV X.K x H k /\ Q k H) := by
  intro pins s σ H x v Q I rx h
  obtain ⟨k, e, q⟩ := h
  have hl := line63
  have hs : sizeLine = 16777216 := sizeLine_eq
  cases x with
  | non =>
    cases rx
    have e' : k = false := e
    subst e'
    exact truthy_none ⟨H, I, q⟩
  | bl b =>
    cases rx
    have e' : k = b := e
    subst e'
    exact wpAny_truthy_bool ⟨H, I, q⟩
  | int i =>
    obtain ⟨t, rfl⟩ := rx
    have e' : k = (i != 0) := e
    subst e'
    exact PySem.P.truthy_int ⟨H, I, q⟩
  | str y =>
    obtain ⟨t, rfl⟩ := rx
    obtain ⟨hy, e'⟩ : y.length <= sizeLine /\ k = ((y.length : Int) != 0) := e
    subst e'
    exact PySem.P.truthy_str (by lia) ⟨H, I.tok _, q⟩
  | byt y =>
    obtain ⟨t, rfl⟩ := rx
    obtain ⟨hy, e'⟩ : y.size <= sizeLine /\ k = ((y.size : Int) != 0) := e
    subst e'
    exact PySem.W.truthy_bytes (by lia) ⟨H, I.tok _, q⟩
  | ref p =>
    cases rx
    have e' : (∃ xs, SqL X.K H p xs /\ k = !xs.isEmpty) \/ (∃ xs, SqT X.K H p xs /\ k = !xs.isEmpty) \/ ∃ kvs, H p = some (.dK kvs) /\ k = !kvs.isEmpty := e
    rcases e' with ⟨xs, hx, e'⟩ | ⟨xs, hx, e'⟩ | ⟨kvs, hx, e'⟩
    · subst e'
      obtain ⟨its, r, pl, hz⟩ := I.list hx
      have hlen := r.length
      exact wpAny_truthy_list pl.isList (by simp only [List.size_toArray]; lia) ⟨H, I.tok _, by rw [isEmpty_of r]; exact q⟩
    · subst e'
      obtain ⟨its, r, pl, hz⟩ := I.tuple hx
      have hlen := r.length
      exact truthy_tuple pl (by simp only [List.size_toArray]; lia) ⟨H, I.tok _, by rw [isEmpty_of r]; exact q⟩
    · subst e'
      obtain ⟨hz, hS, vs, r, m⟩ : kvs.length <= sizeLine /\ (p == sysModules) = false /\ ∃ vs, KV kvs vs /\ s.heap.DictOf (mixKind X.prog X.w) p vs := I.hok p _ hx
      have hlen : kvs.length = vs.length := Paired.length r
      exact wpAny_truthy_dict hS m (by lia) ⟨H, I.tok _, by rw [isEmpty_kv r]; exact q⟩
  | _ => exact (show False from e).elim
theorem pt_truth (ha : PE X a ta) (he : ∀ whole, isTrue a X.env whole = (do let v <- whole; standAt a.pos; holding [v] (truthy v))) :
    PT X a (fun σ H Q => ta σ H fun x H' => ∃ k, TruV X.K x H' k /\ Q k H') := by
  intro pins s σ H Q I h
  exact isTrue_plain (thn (ha pins s σ H _ I h) fun v s1 ⟨x, H1, I1, r1, q1⟩ => tru_ok pins s1 σ H1 x v Q I1 r1 q1) (he _)
theorem op_add_str : OpR X (binaryOp .Add) (fun x y H Q => ∃ i j, x = .str i /\ y = .str j /\ i.length + j.length <= sizeLine /\ Q (.str (i ++ j)) H) := by
  intro pins s σ H x y v u Q I rx ry h
  obtain ⟨i, j, rfl, rfl, hz, q⟩ := h
  obtain ⟨t, rfl⟩ := rx
  obtain ⟨t', rfl⟩ := ry
  exact add_str (fun t' tk => ⟨.str (i ++ j), H, I.tok _, ⟨_, rfl⟩, q⟩) hz
theorem vals1 {x : V} {us : List Value} (r : Vals [x] us) : ∃ u, us = [u] /\ RelV x u := by
  cases r with
  | cons r1 r2 => cases r2; exact ⟨_, rfl, r1⟩
end
structure ObjM (h : Heap) (x dx C : Addr) (mA : Str -> Option Value) : Prop where
  obj : h.get? x = some (PySem.W.instObj C dx)
  ns : h.Ns1 dx mA
  ne : dx ≠ x
theorem lookIn_ns {h : Heap} {dx : Addr} {mA : Str -> Option Value} (n : h.Ns1 dx mA) : ∃ od, h.get? dx = some od /\ ∀ name, PySem.W.lookIn name od = some (mA name) := by
  obtain ⟨o, es, ep, ho, hd, hk, _, hm⟩ := n
  refine ⟨o, ho, fun name => ?_⟩
  have e := hm name
  unfold nsFind findBy at e
  rw [<- Array.find?_toList] at e
  unfold PySem.W.lookIn
  rw [hd]
  dsimp only
  split
  · rename_i y q
    rw [q] at e
    exact congrArg some e
  · rename_i q
    rw [q] at e
    have a : es.toList.any (·.refKey) = false := by
      rw [List.any_eq_false]
      intro y hy
      obtain ⟨z, t, hkey⟩ := hk y (Array.mem_toList_iff.mp hy)
      simp [DictEntry.refKey, hkey]
    have a' : ¬ es.toList.any (·.refKey) = true := by rw [a]; exact Bool.false_ne_true
    rw [if_neg a']
    exact congrArg some e
theorem ObjM.look {h : Heap} {x dx C : Addr} {mA : Str -> Option Value} (I : ObjM h x dx C mA) : ∃ od, PySem.W.InstAt h x (PySem.W.instObj C dx) C (some od) /\ ∀ name, PySem.W.lookIn name od = some (mA name) :=
  let ⟨od, ho, hl⟩ := lookIn_ns I.ns
  ⟨od, ⟨I.obj, rfl, rfl, ho⟩, hl⟩
section
variable {prog : Program} {w : World} {A : Around} {E : Value -> Shared -> Prop} {s : Shared} {K : PySem.W.Frag} {x dx C f : Addr} {mA : Str -> Option Value} {name : Str} {v : Value}
end
section
variable {P : Program} {w : World} {H H' : Hp} {h h' : Heap} {a C dx : Addr} {fs fs' : List (Str × V)}
theorem ins_get (hok : HOk P w H h) (e : H a = some (.ins C dx fs)) : ∃ mA, ObjM h a dx C mA /\ (∀ f, RelO (fs.lookup f) (mA f)) /\ PySem.Within mA (fs.map (·.1)) /\ fs.length <= 1000 /\ H dx = some (.own a) := by
  obtain ⟨d, z, ne, ob, mA, n, r, q⟩ := (show ObjOk P w H h a (.ins C dx fs) from hok a _ e)
  exact ⟨mA, ⟨ob, n, ne⟩, r, q, z, d⟩
end
structure Cls (K : PySem.W.Frag) (C : Addr) : Prop where
  pg : PySem.W.plainGet K C Str.empty = true
  hd : PySem.W.hasDictIn K C = true
  po : PySem.W.plainOver K C = true
  sa : PySem.W.findIn K (.ref C) "__setattr__" = some (some (.builtin "object.__setattr__"))
theorem Cls.get {K : PySem.W.Frag} {C : Addr} (c : Cls K C) (f : Str) : PySem.W.plainGet K C f = true := c.pg
section
variable {X : Cx} {pins : List (Addr × Obj)} {σ : St} {H : Hp} {s : Shared} {a C dx : Addr} {fs : List (Str × V)} {f : Str} {v : V} {A : Around} {E : Value -> Shared -> Prop}
end
section
variable {X : Cx} {o e value : Expr} {f : Str} {pos pos' tpos : Pos} {ta tv : TE}
end
section
variable {X : Cx} {pins : List (Addr × Obj)} {σ : St} {H : Hp} {s : Shared} {A : Around} {E : Value -> Shared -> Prop} {Q : Value -> Shared -> Prop} {c : Value} {b : Bool}
inductive TyOf (K : PySem.W.Frag) (H : Hp) : V -> Value -> Prop where
  | non : TyOf K H .non (.type "NoneType")
  | bl (x : Bool) : TyOf K H (.bl x) (.type "bool")
  | int (i : Int) : TyOf K H (.int i) (.type "int")
  | str (x : Str) : TyOf K H (.str x) (.type "str")
  | flt (x : UInt64) : TyOf K H (.flt x) (.type "float")
  | lst {a : Addr} {xs : List V} (e : H a = some (.lst xs)) : TyOf K H (.ref a) (.type "list")
  | frz {a : Addr} {o : Obj} {xs : List V} (e : H a = some (.frz o (.lst xs))) : TyOf K H (.ref a) (.type "list")
  | tup {a : Addr} {xs : List V} (e : H a = some (.tup xs)) : TyOf K H (.ref a) (.type "tuple")
  | dK {a : Addr} {kvs : List (Key × V)} (e : H a = some (.dK kvs)) : TyOf K H (.ref a) (.type "dict")
  | dT {a : Addr} {kvs : List (List Key × V)} (e : H a = some (.dT kvs)) : TyOf K H (.ref a) (.type "dict")
  | ins {a C dx : Addr} {fs : List (Str × V)} (e : H a = some (.ins C dx fs)) (cl : Cls K C) (ha : PySem.W.findIn K (.ref C) "__class__" = some (some (.builtin "object.__class__")))
      (hn : PySem.W.specialIn K (.builtin "object.__class__") "__get__" = some (some (.builtin "getset_descriptor.__get__"))) (htk : PySem.W.takesIn K (.builtin "object.__class__") = some true)
      (hm : PySem.W.mroIn K C (.type "object") = some true) : TyOf K H (.ref a) (.ref C)
theorem isinst_ok {x : V} {u t : Value} (I : Inv X pins σ H s) (rx : RelV x u) (ty : TyOf X.K H x t) (e : PySem.W.kitOne X.K t c = some b) (h : ∀ tk, Q (.bool b) { s with toks := tk }) :
    wpAny (model X.prog X.w) A (call (.builtin "isinstance") [u, c]) Q E s := by
  cases ty with
  | non => cases (show u = Value.none from rx); exact PySem.W.kia_one PySem.W.kitx_none I.kIn True.intro e (fun z => nomatch z) h
  | bl y => cases (show u = Value.bool y from rx); exact PySem.W.kia_one PySem.W.kitx_bool I.kIn True.intro e (fun z => nomatch z) h
  | int i => obtain ⟨t, q⟩ := (show ∃ t, u = Value.int i t from rx); cases q; exact PySem.W.kia_one PySem.W.kitx_int I.kIn True.intro e (fun z => nomatch z) h
  | str y => obtain ⟨t, q⟩ := (show ∃ t, u = Value.str y t from rx); cases q; exact PySem.W.kia_one PySem.W.kitx_str I.kIn True.intro e (fun z => nomatch z) h
  | flt y => obtain ⟨t, q⟩ := (show ∃ t, u = Value.float y t from rx); cases q; exact PySem.W.kia_one PySem.W.kitx_float I.kIn True.intro e (fun z => nomatch z) h
  | @lst a xs ea =>
    cases (show u = Value.ref a from rx)
    obtain ⟨_, _, n, _, h1⟩ := (show ObjOk X.prog X.w H s.heap a (.lst xs) from I.hok a _ ea)
    exact PySem.W.kia_one PySem.W.kitx_list I.kIn ⟨_, h1, rfl⟩ e (fun z => nomatch z) h
  | @frz a ob xs ea =>
    cases (show u = Value.ref a from rx)
    obtain ⟨_, _, _, n, _, h1⟩ := (show ObjOk X.prog X.w H s.heap a (.frz ob (.lst xs)) from I.hok a _ ea)
    exact PySem.W.kia_one PySem.W.kitx_list I.kIn ⟨_, h1, rfl⟩ e (fun z => nomatch z) h
  | @tup a xs ea =>
    cases (show u = Value.ref a from rx)
    obtain ⟨_, _, _, p⟩ := (show ObjOk X.prog X.w H s.heap a (.tup xs) from I.hok a _ ea)
    obtain ⟨o, h1, h2, _⟩ := p
    exact PySem.W.kia_one PySem.W.kitx_tuple I.kIn ⟨o, h1, h2⟩ e (fun z => nomatch z) h
  | @dK a kvs ea =>
    cases (show u = Value.ref a from rx)
    obtain ⟨_, _, vs, _, p⟩ := (show ObjOk X.prog X.w H s.heap a (.dK kvs) from I.hok a _ ea)
    obtain ⟨o, es, ep, h1, h2, _⟩ := p
    exact PySem.W.kia_one PySem.W.kitx_dict I.kIn ⟨o, h1, h2.1⟩ e (fun z => nomatch z) h
  | @dT a kvs ea =>
    cases (show u = Value.ref a from rx)
    obtain ⟨_, _, xs, _, o, es, ep, h1, h2, _⟩ := (show ObjOk X.prog X.w H s.heap a (.dT kvs) from I.hok a _ ea)
    exact PySem.W.kia_one PySem.W.kitx_dict I.kIn ⟨o, h1, h2.1⟩ e (fun z => nomatch z) h
  | @ins a C dx fs ea cl ha hn htk hm =>
    cases (show u = Value.ref a from rx)
    obtain ⟨mA, O, _⟩ := ins_get I.hok ea
    obtain ⟨od, J, _⟩ := O.look
    exact PySem.W.kia_one (PySem.W.kitx_own (cl.get _) cl.hd ha hn htk hm) I.kIn J e (fun z => nomatch z) h
end
structure Room (k : Nat) (A : Around) : Prop where
  hd : A.handled = none
  dp : A.depth + 3 * k + 5 < recursionLimit
  un : A.units + 16 * k + 200 < cLine
theorem Room.mono {j k : Nat} {A : Around} (r : Room k A) (h : j <= k) : Room j A := ⟨r.hd, by have := r.dp; lia, by have := r.un; lia⟩
theorem Room.deeper {k : Nat} {A : Around} (r : Room (k + 1) A) (env : Env) : Room k (A.deeper env) :=
  ⟨r.hd, by have := r.dp; show A.depth + 1 + 3 * k + 5 < _; lia, by have := r.un; show A.units + 3 + 16 * k + 200 < _; lia⟩
theorem Room.depth {k : Nat} {A : Around} (r : Room k A) : A.depth < recursionLimit := by have := r.dp; lia
theorem Room.units {k : Nat} {A : Around} (r : Room k A) : A.units + 64 < cLine := by have := r.un; lia
def tNil : TA := fun _ H Q => Q [] H
def tCons (ta : TE) (tr : TA) : TA := fun σ H Q => ta σ H fun x H1 => tr σ H1 fun xs H2 => Q (x :: xs) H2
section
variable {X : Cx} {e : Expr} {es : List Expr} {te : TE} {t : TA} {pos : Pos}
theorem pa_nil : PA X [] tNil := fun _ _ _ _ H Q I h => Calls.spliced_nil ⟨[], H, I, .nil, h⟩
theorem pa_cons (ha : PE X e te) (hr : PA X es t) (hs : starEach (e :: es) X.env = (false, eval e X.env) :: starEach es X.env := by rfl) : PA X (e :: es) (tCons te t) := by
  intro pos pins s σ H Q I h
  rw [hs]
  show wpAny _ _ (spliced ((false, eval e X.env) :: backTo pos (starEach es X.env))) _ _ s
  refine Calls.spliced_cons (thn (ha pins s σ H _ I h) fun u s1 ⟨x, H1, I1, r1, q1⟩ => ?_)
  exact thn (hr pos pins s1 σ H1 _ I1 q1) fun us s2 ⟨xs, H2, I2, r2, q2⟩ => ⟨x :: xs, H2, I2, .cons r1 r2, q2⟩
def tTup (t : TA) : TE := fun σ H Q => t σ H fun xs H1 => xs.length <= sizeLine /\ ∀ p, H1 p = none -> Q (.ref p) (upd H1 p (.tup xs))
def tLst (t : TA) : TE := fun σ H Q => t σ H fun xs H1 => xs.length <= sizeLine /\ ∀ p, H1 p = none -> Q (.ref p) (upd H1 p (.lst xs))
theorem pe_tup {x1} (h : PA X es t) : PE X (.Tuple es x1 pos) (tTup t) := by
  intro pins s σ H Q I hq
  refine wpAny_Tuple_spliced (thn (h pos pins s σ H _ I hq) fun us s1 ⟨xs, H1, I1, r, z, q⟩ => ⟨by rw [<- r.length]; exact z, ?_⟩)
  have hf : H1 s1.heap.objs.size = none := I1.hok.fresh (Nat.le_refl _)
  refine ⟨.ref s1.heap.objs.size, upd H1 s1.heap.objs.size (.tup xs), I1.laid (t' := s1.toks) (fun b u e => Heap.get?_push_of_some _ e) (Nat.le_refl _) ?_, rfl, q _ hf⟩
  exact ⟨z, us, r, ⟨_, Heap.get?_push_size _ rfl, rfl, _, rfl⟩⟩
theorem pe_lst (h : PA X es t) : PE X (.List es pos) (tLst t) := by
  intro pins s σ H Q I hq
  refine wpAny_List_spliced (thn (h pos pins s σ H _ I hq) fun us s1 ⟨xs, H1, I1, r, z, q⟩ => ⟨by rw [<- r.length]; exact z, ?_⟩)
  have hf : H1 s1.heap.objs.size = none := I1.hok.fresh (Nat.le_refl _)
  refine ⟨.ref s1.heap.objs.size, upd H1 s1.heap.objs.size (.lst xs), I1.laid (t' := s1.toks) (fun b u e => Heap.get?_push_of_some _ e) (Nat.le_refl _) ?_, rfl, q _ hf⟩
  exact ⟨z, us, 0, r, Heap.get?_push_size _ rfl⟩
end
abbrev Sp := List V -> Hp -> VK -> XK -> Prop
abbrev CXT := List Env -> Hp -> Shared -> XK -> Value -> Shared -> Prop
structure Env0 (P : Program) (w : World) (K : PySem.W.Frag) (mg : Str -> Option Value) (base : Heap) (A : Around) (outer : List Env) (s : Shared) (H : Hp) : Prop where
  frames : A.frames = some outer
  mod : Mod K mg base
  bs : ∀ b o, base.get? b = some o -> s.heap.get? b = some o /\ H b = none
  bsz : base.objs.size <= s.heap.objs.size
  funs : s.heap.FunFrames base outer
  frf : ∀ b ∈ frs outer, H b = none
  hok : HOk P w H s.heap
  bare : AllBare s.gens
def CE (outer : List Env) (P : Program) (w : World) (H : Hp) (s : Shared) (Q : VK) (u : Value) (s' : Shared) : Prop :=
  ∃ v H', s'.os = s.os /\ AllBare s'.gens /\ Un (frs outer) [] H H' s.heap s'.heap /\ HOk P w H' s'.heap /\ RelV v u /\ Q v H'
def CR (CX : CXT) (outer : List Env) (P : Program) (w : World) (H : Hp) (s : Shared) (Q : VK) (E : XK) (r : Result) (s' : Shared) : Prop :=
  match r with
  | .ok (.ret u) => CE outer P w H s Q u s'
  | .ok _ => False
  | .error e => CX outer H s E e s'
structure FnOk (P : Program) (w : World) (K : PySem.W.Frag) (mg : Str -> Option Value) (base : Heap) (CX : CXT) (k : Nat) (f : Addr) (fd : FuncData) (ps : List Str) (sp : Sp) : Prop where
  len : ∀ vs H Q E, sp vs H Q E -> vs.length = ps.length
  run : ∀ (A : Around) (outer : List Env) (s : Shared) (H : Hp) (args : Args) (us : List Value) (vs : List V) (Q : VK) (E : XK), Room k A -> Env0 P w K mg base A outer s H -> BindsTo s fd args (ps.zip us) -> Vals vs us -> sp vs H Q E ->
    codeAny (model P w) A (.call (.ref f) args) (CR CX outer P w H s Q E) s
section
variable {X : Cx} {pins : List (Addr × Obj)} {σ : St} {H : Hp} {s s' : Shared}
theorem Inv.env0 (I : Inv X pins σ H s) : Env0 X.prog X.w X.K X.mg X.base X.A X.stack s H :=
  ⟨I.ok.frames, I.ok.mod, I.bs, Nat.le_trans I.ok.bsz I.sz, I.stack, I.stkFree, I.hok, I.bare⟩
theorem Inv.after {Q : VK} {u : Value} (I : Inv X pins σ H s) (h : CE X.stack X.prog X.w H s Q u s') : EP X pins σ Q u s' := by
  obtain ⟨v, H', os, bare, un, hok, r, q⟩ := h
  obtain ⟨hh, g, d, t, os'⟩ := s'
  obtain rfl : os' = s.os := os
  exact ⟨v, H', I.call (h' := hh) (g' := g) (d' := d) (t' := t) (ch := []) un hok bare (fun b z => absurd z (by simp)), r, q⟩
end
def tCall (sp : Sp) (dvs : List V) (E : XK) (t : TA) : TE := fun σ H Q => t σ H fun vs H1 => sp (vs ++ dvs) H1 Q E
def Binds (K : PySem.W.Frag) (fd : FuncData) (ps : List Str) (ds : List Value) : Prop :=
  ∀ (s : Shared) (us : List Value), K.In s.heap -> (us ++ ds).length = ps.length -> BindsTo s fd ⟨us, []⟩ (ps.zip (us ++ ds))
theorem Binds.all {K : PySem.W.Frag} {fd : FuncData} {ps : List Str} (h : ∀ us : List Value, us.length = ps.length -> bindArgs fd ⟨us, []⟩ = pure (ps.zip us)) : Binds K fd ps [] := fun s us _ hl => by
  rw [List.append_nil] at hl ⊢
  exact .of_eq (h us hl)
def Passes (CX : CXT) (X : Cx) (E : XK) : Prop := ∀ (pins : List (Addr × Obj)) (σ : St) (H : Hp) (s : Shared) (e : Value) (s' : Shared), Inv X pins σ H s -> CX X.stack H s E e s' -> X.xe e s'
section
variable {X : Cx} {CX : CXT} {k : Nat} {f C : Addr} {fd : FuncData} {ps : List Str} {sp : Sp} {dvs : List V} {ds : List Value} {E : XK} {x m : Str} {p pos apos : Pos} {e o : Expr} {es : List Expr} {ta : TE} {t : TA}
theorem run_fn {pins : List (Addr × Obj)} {σ : St} {H : Hp} {s : Shared} {Q : VK} {us : List Value} {vs : List V} (F : FnOk X.prog X.w X.K X.mg X.base CX k f fd ps sp) (hr : Room k X.A) (hb : Binds X.K fd ps ds) (hd : Vals dvs ds) (hx : Passes CX X E)
    (I : Inv X pins σ H s) (r : Vals vs us) (h : sp (vs ++ dvs) H Q E) : wpAny (model X.prog X.w) X.A (call (.ref f) us) (EP X pins σ Q) X.xe s := by
  have r2 : Vals (vs ++ dvs) (us ++ ds) := r.append hd
  have hl : (us ++ ds).length = ps.length := by rw [<- r2.length]; exact F.len _ _ _ _ h
  refine wpAny_call (codeAny_mono (F.run X.A X.stack s H ⟨us, []⟩ (us ++ ds) (vs ++ dvs) Q E hr I.env0 (hb s us I.kIn hl) r2 h) fun r s' hq => ?_)
  cases r with
  | error e => exact hx pins σ H s e s' I hq
  | ok fl =>
    cases fl with
    | ret u => exact I.after hq
    | next => exact False.elim hq
    | brk => exact False.elim hq
    | cont => exact False.elim hq
theorem pe_call (F : FnOk X.prog X.w X.K X.mg X.base CX k f fd ps sp) (hr : Room k X.A) (hg : Gl X x) (hm : X.mg x = some (.ref f)) (hk : PySem.W.keepIn X.K (.ref f) = true) (hb : Binds X.K fd ps ds) (hd : Vals dvs ds) (hx : Passes CX X E)
    (ha : PA X (e :: es) t) (hdb : (x == ("__debug__" : Str)) = false := by decide) (he : starEach (e :: es) X.env = (false, eval e X.env) :: starEach es X.env := by rfl) (hpl : (backTo pos (starEach es X.env)).any (·.1) = false := by rfl) :
    PE X (.Call (.Name x p) (e :: es) [] pos) (tCall sp dvs E t) := by
  intro pins s σ H Q I h
  refine wpAny_Call_Name_kw (ld_glob I hg hm ?_ hdb)
  refine PySem.W.callWith_K (h₀ := X.base) I.ok.mod.kin hk (thn (ha pos pins s σ H _ I h) fun us s1 ⟨vs, H1, I1, r, q⟩ => ⟨I1.kIn, ?_⟩) he hpl
  exact run_fn F hr hb hd hx I1 r q
end
section
variable {X : Cx} {CX : CXT} {k : Nat} {f C : Addr} {fd : FuncData} {ps ks : List Str} {sp : Sp} {E : XK} {x m : Str} {p pos apos kpos : Pos} {e o : Expr} {es : List Expr} {kws : List Keyword} {te ta : TE} {t tk : TA} {nm : Option Str}
variable {g : List Value -> List Value -> List Value} {gV : List V -> List V -> List V}
end
structure FnScope (N P : List Str) (sc : Scope) : Prop where
  kind : sc.kind = .function
  co : sc.isCoroutine = false
  gen : sc.isGenerator = false
  nd : N.Nodup
  pre : N.take P.length = P
  par : ∀ x ∈ P, sc.names.lookup x = some .local \/ sc.names.lookup x = some .cell
  nofree : ∀ y ∈ sc.names, y.2 ≠ .free
theorem bindL_out {kindOf : Str -> Option NameKind} {x : Str} : ∀ {binds : List (Str × Value)} {m : Str -> Option Value}, (∀ v, (x, v) ∉ binds) -> bindL kindOf binds m x = m x
  | [], _, _ => rfl
  | (n, v) :: r, m, h => by
    unfold bindL
    rw [bindL_out fun w hw => h w (List.mem_cons_of_mem _ hw)]
    split
    · have : x ≠ n := by rintro rfl; exact h v List.mem_cons_self
      simp [this]
    · rfl
theorem bindC_out {kindOf : Str -> Option NameKind} {x : Str} : ∀ {binds : List (Str × Value)} {m : Str -> Option Value}, (∀ v, (x, v) ∉ binds) -> bindC kindOf binds m x = m x
  | [], _, _ => rfl
  | (n, v) :: r, m, h => by
    unfold bindC
    rw [bindC_out fun w hw => h w (List.mem_cons_of_mem _ hw)]
    split
    · rfl
    · have : x ≠ n := by rintro rfl; exact h v List.mem_cons_self
      simp [this]
theorem bindL_get {kindOf : Str -> Option NameKind} {x : Str} {v : Value} : ∀ {P : List Str} {vs : List Value} {i : Nat} {m : Str -> Option Value}, P.Nodup -> P[i]? = some x -> vs[i]? = some v -> kindOf x = some .local ->
    bindL kindOf (P.zip vs) m x = some v
  | [], _, _, _, _, h, _, _ => by simp at h
  | _ :: _, [], _, _, _, _, h, _ => by simp at h
  | p :: P, w :: vs, 0, m, nd, h1, h2, hk => by
    simp at h1 h2; subst h1; subst h2
    show bindL kindOf ((p, w) :: P.zip vs) m p = _
    unfold bindL
    rw [bindL_out fun v hv => (List.nodup_cons.mp nd).1 (List.of_mem_zip hv).1, if_pos hk]
    simp
  | p :: P, w :: vs, i + 1, m, nd, h1, h2, hk => by
    show bindL kindOf ((p, w) :: P.zip vs) m x = _
    unfold bindL
    exact bindL_get (i := i) (List.nodup_cons.mp nd).2 (by simpa using h1) (by simpa using h2) hk
theorem bindC_get {kindOf : Str -> Option NameKind} {x : Str} {v : Value} : ∀ {P : List Str} {vs : List Value} {i : Nat} {m : Str -> Option Value}, P.Nodup -> P[i]? = some x -> vs[i]? = some v -> kindOf x ≠ some .local ->
    bindC kindOf (P.zip vs) m x = some v
  | [], _, _, _, _, h, _, _ => by simp at h
  | _ :: _, [], _, _, _, _, h, _ => by simp at h
  | p :: P, w :: vs, 0, m, nd, h1, h2, hk => by
    simp at h1 h2; subst h1; subst h2
    show bindC kindOf ((p, w) :: P.zip vs) m p = _
    unfold bindC
    rw [bindC_out fun v hv => (List.nodup_cons.mp nd).1 (List.of_mem_zip hv).1, if_neg hk]
    simp
  | p :: P, w :: vs, i + 1, m, nd, h1, h2, hk => by
    show bindC kindOf ((p, w) :: P.zip vs) m x = _
    unfold bindC
    exact bindC_get (i := i) (List.nodup_cons.mp nd).2 (by simpa using h1) (by simpa using h2) hk
def start (N : List Str) (vs : List V) : St := vs.map some ++ List.replicate (N.length - vs.length) none
def cxOf (CX : CXT) (P : Program) (w : World) (K : PySem.W.Frag) (mg : Str -> Option Value) (base : Heap) (N : List Str) (qual : Str) (scope : Scope) (f : Addr) (cd : Value) (A : Around) (outer : List Env) (s : Shared) (H : Hp) (E : XK) : Cx where
  prog := P
  w := w
  K := K
  mg := mg
  base := base
  A := A.deeper (envOfC qual scope s.heap.objs.size f cd)
  N := N
  s₀ := s
  H₀ := H
  env := envOfC qual scope s.heap.objs.size f cd
  outer := outer
  stack := envOfC qual scope s.heap.objs.size f cd :: outer
  ex := []
  calm := true
  fn := fun _ => true
  pn := []
  xe := fun e s' => wpAny (model P w) (A.deeper (envOfC qual scope s.heap.objs.size f cd)) (leaving (envOfC qual scope s.heap.objs.size f cd) e) (fun _ s'' => CX outer H s E e s'') (fun e' s'' => CX outer H s E e' s'') s'
theorem cell_has {sc : Scope} {n : Nat} {x : Str} (h : sc.names.lookup x = some .cell) : ∃ c, (cellsFrom n sc.names []).lookup x = some c := by
  have q := PySem.W.cellsFrom_some sc.names n [] (.inl h)
  exact Option.isSome_iff_exists.mp q
theorem inv_start {CX : CXT} {P : Program} {w : World} {K : PySem.W.Frag} {mg : Str -> Option Value} {base : Heap} {N ps : List Str} {qual : Str} {scope : Scope} {f : Addr} {cd : Value} {A : Around} {outer : List Env} {s s1 : Shared} {H : Hp} {E : XK} {us : List Value} {vs : List V}
    (S : FnScope N ps scope) (hd : A.handled = none) (e0 : Env0 P w K mg base A outer s H) (hl : vs.length = ps.length) (r : Vals vs us)
    (x : InCallC s s.heap.objs.size (bindL (envOfC qual scope s.heap.objs.size f cd).kindOf (ps.zip us) fun _ => none) (cellsFrom (s.heap.objs.size + 1) scope.names []) (bindC (envOfC qual scope s.heap.objs.size f cd).kindOf (ps.zip us) fun _ => none) s1) :
    Inv (cxOf CX P w K mg base N qual scope f cd A outer s H E) [] (start N vs) H s1 := by
  have hpl : ps.length <= N.length := by have := congrArg List.length S.pre; rw [List.length_take] at this; lia
  obtain ⟨h1, tk, rfl, hk⟩ := x.done
  have noA : ∀ b : Addr, b ∉ (cxOf CX P w K mg base N qual scope f cd A outer s H E).ex := fun b z => absurd (show b ∈ ([] : List Addr) from z) (by simp)
  refine ⟨⟨e0.mod, S.kind, rfl, rfl, Nat.le_refl _, fun y z c h1 h2 => ?_, fun y hy => ?_, fun y c _ h => ?_, fun _ => hd, Around.frames_deeper e0.frames, .inr ⟨rfl, rfl⟩, fun b z => absurd z (noA b), e0.bs, e0.bsz, fun b _ _ => noA b, fun b z => absurd z (noA b), e0.funs, e0.frf⟩,
    rfl, e0.bare, Un.kept hk, ⟨_, x.toInCall.ns, fun i y v h1 h2 h3 => ?_⟩, fun y c h => ⟨_, x.cell y c h⟩, e0.hok.fresh (Nat.le_refl _), fun y c h => ?_, fun p hp => absurd (show p ∈ ([] : List (Addr × Obj)) from hp) (by simp), e0.hok.kept hk, ?_⟩
  · exact name_of_addr x.apart (PySem.mem_of_lookup h1) (PySem.mem_of_lookup h2)
  · have hy : scope.names.lookup y = some .cell \/ scope.names.lookup y = some .free := hy
    rcases hy with hy | hy
    · exact cell_has hy
    · exact absurd rfl (S.nofree _ (PySem.mem_of_lookup hy))
  · exact Nat.le_of_lt (x.above y c (PySem.mem_of_lookup h))
  · have hi : i < vs.length := by
      unfold start at h2
      by_cases hi : i < vs.length
      · exact hi
      · rw [List.getElem?_append_right (by simpa using hi)] at h2
        rw [List.getElem?_replicate] at h2
        split at h2 <;> cases h2
    have ha : vs[i]? = some v := by
      unfold start at h2
      rw [List.getElem?_append_left (by simpa using hi), List.getElem?_map] at h2
      cases e : vs[i]? with
      | none => rw [e] at h2; cases h2
      | some a => rw [e] at h2; cases h2; rfl
    obtain ⟨u, hu, rv⟩ := r.get ha
    have hp : ps[i]? = some y := by
      rw [<- S.pre, List.getElem?_take_of_lt (by lia)]; exact h1
    have ndP : ps.Nodup := by rw [<- S.pre]; exact S.nd.sublist (List.take_sublist _ _)
    refine ⟨u, rv, ?_⟩
    rcases S.par y (List.mem_of_getElem? hp) with k | k
    · exact .inl ⟨k, bindL_get ndP hp hu k⟩
    · obtain ⟨c, e⟩ := cell_has (n := s.heap.objs.size + 1) k
      refine .inr ⟨.inl k, c, e, ?_⟩
      have q := x.cell y c e
      rw [bindC_get ndP hp hu (by show scope.names.lookup y ≠ _; rw [k]; decide)] at q
      exact q
  · exact e0.hok.fresh (Nat.le_of_lt (x.above y c (PySem.mem_of_lookup h)))
  · unfold start
    show _ = N.length
    rw [List.length_append, List.length_map, List.length_replicate]
    lia
theorem fn_of {CX : CXT} {P : Program} {w : World} {K : PySem.W.Frag} {mg : Str -> Option Value} {base : Heap} {k : Nat} {f : Addr} {name qual : Str} {params : Arguments} {body : List Stmt} {scope : Scope} {dV kV doc pm cdv ct oc : Value} {an od : Option Addr}
    {osl : Array (Option Value)} {N ps : List Str} {sp : Sp} (lk : K.lookup f = some ⟨oc, od, .func (PySem.W.fnOf name qual params body scope dV kV doc pm an cdv ct), osl⟩) (hcd : PySem.W.codeIn K cdv qual = true) (S : FnScope N ps scope)
    (len : ∀ vs H Q E, sp vs H Q E -> vs.length = ps.length)
    (hbody : ∀ (A : Around) (outer : List Env) (s : Shared) (H : Hp) (vs : List V) (Q : VK) (E : XK), Room k (A.deeper (envOfC qual scope s.heap.objs.size f cdv)) -> sp vs H Q E ->
      ∃ t, PSs (cxOf CX P w K mg base N qual scope f cdv A outer s H E) body t /\ t { nx := fun _ H' => Q .non H', rt := Q } (start N vs) H) :
    FnOk P w K mg base CX (k + 1) f (PySem.W.fnOf name qual params body scope dV kV doc pm an cdv ct) ps sp := by
  refine ⟨len, fun A outer s H args us vs Q E hr e0 hb r hsp => ?_⟩
  have hl := len _ _ _ _ hsp
  have KX : K.In s.heap := e0.mod.kin.keeps fun b o e => (e0.bs b o e).1
  have lim : s.heap.NoLimit := e0.mod.nolimit.keeps fun b o e => (e0.bs b o e).1
  have hkind : ∀ y ∈ ps.zip us, scope.names.lookup y.1 = some .local \/ (scope.names.lookup y.1 = some .cell /\ ((cellsFrom (s.heap.objs.size + 1) scope.names []).lookup y.1).isSome = true) := fun ⟨n, v⟩ hy => by
    rcases S.par n (List.of_mem_zip hy).1 with q | q
    · exact .inl q
    · exact .inr ⟨q, PySem.W.cellsFrom_some _ _ _ (.inl q)⟩
  refine codeAny_call_function hr.depth (KX _ _ lk) rfl S.co S.gen rfl (PySem.W.codeRec_of KX hcd) (hb _ _ _ _ ?_)
  refine wpAny_newFunctionEnv_cells S.kind hkind fun env he s1 x => ?_
  subst he
  refine ⟨lim.keeps x.toInCall.keep, codeAny_func ?_⟩
  obtain ⟨t, ht, hq⟩ := hbody A outer s H vs Q E (hr.deeper _) hsp
  have I : Inv (cxOf CX P w K mg base N qual scope f cdv A outer s H E) [] (start N vs) H s1 := inv_start S hr.hd e0 hl r x
  refine wpAny_mono (ht [] s1 (start N vs) H _ I hq) (fun fl s' hs => ?_) fun e s' hs => hs
  have fin : ∀ {σ' : St} {H' : Hp} {v : V} {u : Value}, Inv (cxOf CX P w K mg base N qual scope f cdv A outer s H E) [] σ' H' s' -> RelV v u -> Q v H' -> CE outer P w H s Q u s' :=
    fun {σ' H' v u} J rv q => ⟨v, H', J.os, J.bare, J.base, J.hok, rv, q⟩
  cases fl with
  | ret u =>
    obtain ⟨v, σ', H', J, rv, q⟩ := hs
    exact fin J rv q
  | next =>
    obtain ⟨σ', H', J, q⟩ := hs
    exact fin (v := V.non) (u := Value.none) J rfl q
  | brk =>
    obtain ⟨_, _, _, q⟩ := hs
    exact False.elim q
  | cont =>
    obtain ⟨_, _, _, q⟩ := hs
    exact False.elim q
section
variable {X : Cx} {x : Str} {p pos : Pos} {e : Expr} {es : List Expr} {t : TA} {id T : String} {r : List V -> Hp -> VK -> Prop}
def tCB (r : List V -> Hp -> VK -> Prop) (t : TA) : TE := fun σ H Q => t σ H fun vs H1 => r vs H1 Q
theorem pe_callB (hc : CallR X (.builtin id) r) (hg : Gl X x) (hm : X.mg x = none) (hv : bootBuiltins x = some (.builtin id)) (ha : PA X (e :: es) t) (hn : x ≠ "__name__" := by decide) (hdb : (x == ("__debug__" : Str)) = false := by decide)
    (he : starEach (e :: es) X.env = (false, eval e X.env) :: starEach es X.env := by rfl) (hpl : (backTo pos (starEach es X.env)).any (·.1) = false := by rfl) : PE X (.Call (.Name x p) (e :: es) [] pos) (tCB r t) := by
  intro pins s σ H Q I h
  refine wpAny_Call_Name_kw (ld_blt I hg hm hv ?_ hn hdb)
  exact PyProof.Rows.callWith_builtin1 (thn (ha pos pins s σ H _ I h) fun us s1 ⟨vs, H1, I1, r1, q1⟩ => hc pins s1 σ H1 vs us Q I1 r1 q1) he hpl
theorem pe_callTy (hc : CallR X (.type T) r) (hg : Gl X x) (hm : X.mg x = none) (hv : bootBuiltins x = some (.type T)) (ha : PA X (e :: es) t) (hn : x ≠ "__name__" := by decide) (hdb : (x == ("__debug__" : Str)) = false := by decide)
    (he : starEach (e :: es) X.env = (false, eval e X.env) :: starEach es X.env := by rfl) (hpl : (backTo pos (starEach es X.env)).any (·.1) = false := by rfl) : PE X (.Call (.Name x p) (e :: es) [] pos) (tCB r t) := by
  intro pins s σ H Q I h
  refine wpAny_Call_Name_kw (ld_blt I hg hm hv ?_ hn hdb)
  exact PyProof.Rows.callWith_type1 (thn (ha pos pins s σ H _ I h) fun us s1 ⟨vs, H1, I1, r1, q1⟩ => hc pins s1 σ H1 vs us Q I1 r1 q1) he hpl
end
end L2
namespace HT
open PySem PyProof.Rows
def lexLt : List Int -> List Int -> Bool
  | [], [] => false
  | [], _ :: _ => true
  | _ :: _, [] => false
  | x :: xs, y :: ys => if x = y then lexLt xs ys else decide (x < y)
theorem lexLt_cons (x y : Int) (xs ys : List Int) : lexLt (x :: xs) (y :: ys) = if x = y then lexLt xs ys else decide (x < y) := rfl
section
open PySem.SeqAt
open PySem.AutoSeq1 (wpAny_loadPart')
open PySem.MeetsSeq PySem.MeetsSeq2 PySem.MeetsSeq3
end
section
variable {prog : Program} {w : World} {A : Around} {E : Value -> Shared -> Prop} {s : Shared}
theorem cat_tup {t b : Addr} {vs ws : List Value} {Q : Value -> Shared -> Prop} (ht : IsTup s.heap t vs.toArray) (hb : IsTup s.heap b ws.toArray) (hv : vs ≠ [])
    (h1 : ws = [] -> Q (.ref t) s) (h2 : ws ≠ [] -> Q (.ref s.heap.objs.size) { s with heap := s.heap.push { cls := .type "tuple", data := .seq (vs ++ ws).toArray } })
    (hsz : vs.length + ws.length <= sizeLine) : wpAny (model prog w) A (binaryOp .Add (.ref t) (.ref b)) Q E s := by
  obtain ⟨⟨cls, dd, data, sl⟩, ho, hc, n, hd⟩ := id ht
  obtain ⟨⟨cls2, dd2, data2, sl2⟩, ho2, hc2, n2, hd2⟩ := id hb
  simp only at hc hd hc2 hd2
  subst hc hd hc2 hd2
  have e : vs.toArray ++ ws.toArray = (vs ++ ws).toArray := by simp
  by_cases hw : ws = []
  · exact concat_meets ⟨_, ho, rfl⟩ ⟨_, ho2, rfl⟩ noFill_tuple_add seq_tuple_add PySem.F.slot_tuple_add PySem.F.entry_tuple_add (PySem.F.args_tuple_add_2 _ _)
      (tuple_addW1 t b vs.toArray ws.toArray n n2 dd dd2 sl sl2 (by simpa using hv) (by simp [hw])) ⟨ho, ho2, h1 hw⟩
  · refine concat_meets ⟨_, ho, rfl⟩ ⟨_, ho2, rfl⟩ noFill_tuple_add seq_tuple_add PySem.F.slot_tuple_add PySem.F.entry_tuple_add (PySem.F.args_tuple_add_2 _ _)
      (tuple_addW2 t b vs.toArray ws.toArray n n2 dd dd2 sl sl2 (by simpa using hv) (by simpa using hw) (by rw [List.size_toArray, List.size_toArray]; exact hsz)) ⟨ho, ho2, ?_⟩
    rw [e]
    exact h2 hw
def sIx (n d : Nat) : Option Int -> Nat
  | none => d
  | some v => if v < 0 then (v + (n : Int)).toNat else min v.toNat n
theorem sIx_nat (n d k : Nat) : sIx n d (some (k : Int)) = min k n := by
  show (if (k : Int) < 0 then ((k : Int) + (n : Int)).toNat else min (k : Int).toNat n) = min k n
  rw [if_neg (by lia), Int.toNat_natCast]
theorem sIx_le (n d : Nat) (hd : d <= n) (o : Option Int) : sIx n d o <= n := by
  cases o with
  | none => exact hd
  | some v =>
    show (if v < 0 then (v + (n : Int)).toNat else min v.toNat n) <= n
    by_cases hv : v < 0
    · rw [if_pos hv]; lia
    · rw [if_neg hv]; exact Nat.min_le_right _ _
theorem clip_eq (v : Int) (n d : Nat) : (if v < 0 then max (v + (n : Int)) 0 else min v (n : Int)) = ((sIx n d (some v) : Nat) : Int) := by
  show (if v < 0 then max (v + (n : Int)) 0 else min v (n : Int)) = (((if v < 0 then (v + (n : Int)).toNat else min v.toNat n) : Nat) : Int)
  by_cases hv : v < 0
  · simp only [if_pos hv]; lia
  · simp only [if_neg hv]; lia
theorem adjust_gen (lo hi : Option Int) (n : Nat) : Builtin.Slice.sliceAdjust lo hi 1 (n : Int) = (((sIx n 0 lo : Nat) : Int), ((sIx n n hi : Nat) : Int)) := by
  have h1 : ¬ ((1 : Int) < 0) := by lia
  unfold Builtin.Slice.sliceAdjust
  simp only [h1, if_false]
  refine Prod.ext ?_ ?_
  · cases lo with
    | none => rfl
    | some v => exact clip_eq v n 0
  · cases hi with
    | none => rfl
    | some v => exact clip_eq v n n
theorem places_gen (i j : Nat) : Builtin.Slice.slicePlaces (i : Int) (j : Int) 1 = j - i := by
  unfold Builtin.Slice.slicePlaces
  have h1 : (1 : Int) > 0 := by lia
  simp only [h1, if_true, Int.ediv_one]
  split <;> lia
theorem slicePart_ {v : Value} {o : Option Int} {Q : Option Int -> Shared -> Prop} (p : IsPart v o) (h : Q o s) : wpAny (model prog w) A (Builtin.Slice.slicePartIndex v) Q E s := by
  cases p with
  | none => exact slicePart_none h
  | int i t => exact slicePart_int h
theorem sliceApplied_gen {sl : Addr} {vl vu : Value} {lo hi : Option Int} {n : Nat} {Q : Int × Int × Nat -> Shared -> Prop} (hs : s.heap.IsSliceOf sl vl vu .none) (pl : IsPart vl lo) (pu : IsPart vu hi)
    (h : Q (((sIx n 0 lo : Nat) : Int), 1, sIx n n hi - sIx n 0 lo) s) : wpAny (model prog w) A (Builtin.Slice.sliceApplied (.ref sl) (pure (n : Int))) Q E s := by
  obtain ⟨os, hos, hcs, hds⟩ := id hs
  unfold Builtin.Slice.sliceApplied Builtin.Slice.sliceFields
  refine wpAny_bind (wpAny_bind (wpAny_field hos hds (x := vl) rfl (wpAny_bind (wpAny_field hos hds (x := vu) rfl (wpAny_bind (wpAny_field hos hds (x := .none) rfl (wpAny_pure ?_)))))))
  refine wpAny_bind (slicePart_none ?_)
  show wpAny _ _ (if ((1 : Int) == 0) = true then _ else _) _ _ s
  rw [if_neg (by decide)]
  refine wpAny_bind (slicePart_ pl (wpAny_bind (slicePart_ pu (wpAny_bind (wpAny_pure ?_)))))
  show wpAny _ _ (match Builtin.Slice.sliceAdjust lo hi 1 (n : Int) with | (lo, hi) => pure (lo, (1 : Int), Builtin.Slice.slicePlaces lo hi 1)) _ _ s
  rw [adjust_gen lo hi n]
  show wpAny _ _ (pure (((sIx n 0 lo : Nat) : Int), (1 : Int), Builtin.Slice.slicePlaces ((sIx n 0 lo : Nat) : Int) ((sIx n n hi : Nat) : Int) 1)) _ _ s
  rw [places_gen]
  exact wpAny_pure h
theorem pick_gen (xs : Array Value) (i k : Nat) : ((List.range k).filterMap fun (m : Nat) => xs[((i : Int) + (m : Int) * 1).toNat]?).toArray = ((xs.toList.drop i).take k).toArray := by
  have e : (fun (m : Nat) => xs[((i : Int) + (m : Int) * 1).toNat]?) = fun m => xs[i + m]? := by
    funext m
    have : ((i : Int) + (m : Int) * 1).toNat = i + m := by lia
    rw [this]
  rw [e]
  have := pick_run xs i k
  rw [List.filterMap_map] at this
  have e2 : ((fun x => xs[x]?) ∘ fun x => i + x) = fun m => xs[i + m]? := rfl
  rw [e2] at this
  rw [this]
theorem getItem_tuple_cut {t sl : Addr} {items : Array Value} {vl vu : Value} {lo hi : Option Int} {Q : Value -> Shared -> Prop} (ht : IsTup s.heap t items) (hs : s.heap.IsSliceOf sl vl vu .none) (pl : IsPart vl lo) (pu : IsPart vu hi)
    (hw : ¬ (sIx items.size 0 lo = 0 /\ sIx items.size items.size hi = items.size))
    (h : Q (.ref s.heap.objs.size) { s with heap := s.heap.push { cls := .type "tuple", data := .seq ((items.toList.drop (sIx items.size 0 lo)).take (sIx items.size items.size hi - sIx items.size 0 lo)).toArray } })
    (hsz : items.size <= sizeLine) : wpAny (model prog w) A (getItem (.ref t) (.ref sl)) Q E s := by
  have htake : sizeOk (.seq ((items.toList.drop (sIx items.size 0 lo)).take (sIx items.size items.size hi - sIx items.size 0 lo)).toArray) := by
    show ((items.toList.drop (sIx items.size 0 lo)).take (sIx items.size items.size hi - sIx items.size 0 lo)).toArray.size <= sizeLine
    rw [List.size_toArray, List.length_take, List.length_drop, Array.length_toList]
    lia
  have hj : sIx items.size items.size hi <= items.size := sIx_le _ _ (Nat.le_refl _) hi
  obtain ⟨os, hos, hcs, hds⟩ := id hs
  have hTs : s.TypeIs (.ref sl) "slice" := ⟨os, hos, hcs⟩
  unfold getItem
  try with_reducible refine wpAny_holding ?_
  first | refine wpAny_bind (wpAny_pure ?_) | skip
  refine wpAny_bind (wpAny_sequenceKey ht.typeIs (by decide) ?_)
  refine wpAny_bind (wpAny_callSpecial?_slot (name := Str.ofString "__getitem__") ht.typeIs PyProof.Rows.slot_tuple_getitem
    (wpAny_call_entry PyProof.Rows.slot_tuple_getitem ht.typeIs entry_tuple_getitem ?_ (args_tuple_getitem _ _)))
  show wpAny _ _ (Builtin.Tuple.tupleItemsOf (.ref t) >>= _) _ _ s
  refine wpAny_bind (tupleItemsOf_ ht ?_)
  refine wpAny_bind (wpAny_typeOf hTs ?_)
  rw [if_pos (by decide)]
  refine wpAny_bind (sliceApplied_gen hs pl pu ?_)
  have hno : ¬ ((((sIx items.size 0 lo : Nat) : Int) == 0 && (1 : Int) == 1 && (sIx items.size items.size hi - sIx items.size 0 lo) == items.size) = true) := by
    intro q
    rw [Bool.and_eq_true, Bool.and_eq_true] at q
    have q1 : ((sIx items.size 0 lo : Nat) : Int) = 0 := eq_of_beq q.1.1
    have q2 : sIx items.size items.size hi - sIx items.size 0 lo = items.size := eq_of_beq q.2
    exact hw ⟨by lia, by lia⟩
  show wpAny _ _ (if (((sIx items.size 0 lo : Nat) : Int) == 0 && (1 : Int) == 1 && (sIx items.size items.size hi - sIx items.size 0 lo) == items.size) = true then _ else _) _ _ s
  rw [if_neg hno, pick_gen]
  first
    | exact wpAny_bind (m := Builtin.Tuple.tupleExact _) (wpAny_newObj_type (wpAny_pure ⟨_, rfl, wpAny_pure h⟩) htake)
    | exact wpAny_bind (m := Builtin.Tuple.tupleExact _) (wpAny_newObj_type (wpAny_bind (wpAny_pure (wpAny_pure ⟨_, rfl, wpAny_pure h⟩))) htake)
    | exact wpAny_bind (wpAny_bind (m := Builtin.Tuple.tupleExact _) (wpAny_newObj_type (wpAny_pure (wpAny_pure ⟨_, rfl, wpAny_pure h⟩)) htake))
    | exact wpAny_bind (wpAny_bind (m := Builtin.Tuple.tupleExact _) (wpAny_newObj_type (wpAny_pure ⟨_, rfl, wpAny_pure h⟩) htake))
end
end HT
namespace L2
open PySem PySem.Spec PyProof.Rows
abbrev TO := St -> Hp -> (Option Int -> Hp -> Prop) -> Prop
def PO (X : Cx) (e : Option Expr) (t : TO) : Prop :=
  ∀ (pins : List (Addr × Obj)) (s : Shared) (σ : St) (H : Hp) (Q : Option Int -> Hp -> Prop), Inv X pins σ H s -> t σ H Q ->
    wpAny (model X.prog X.w) X.A (evalPart e X.env) (fun u s' => ∃ o H', Inv X pins σ H' s' /\ IsPart u o /\ Q o H') X.xe s
def tNoPart : TO := fun _ H Q => Q none H
def tPart (t : TE) : TO := fun σ H Q => t σ H fun x H1 => ∃ i, x = .int i /\ Q (some i) H1
theorem intsAre_of {ns : List Int} : ∀ {us : List Value}, Vals (ns.map V.int) us -> IntsAre us ns := by
  induction ns with
  | nil => intro us r; rw [List.map_nil] at r; cases r; exact .nil
  | cons n ns ih =>
    intro us r
    rw [List.map_cons] at r
    cases r with
    | cons r1 r2 =>
      obtain ⟨t, e⟩ := r1
      subst e
      exact .cons n t (ih r2)
section
variable {X : Cx} {e : Expr} {te : TE} {lo hi : Option Expr} {tl th : TO} {pos p2 : Pos}
theorem po_none : PO X none tNoPart := by
  intro pins s σ H Q I h
  rw [evalPart_none]
  exact wpAny_pure ⟨none, H, I, .none, h⟩
theorem po_some (h : PE X e te) : PO X (some e) (tPart te) := by
  intro pins s σ H Q I hw
  rw [evalPart_some]
  refine thn (h pins s σ H _ I hw) fun u s1 ⟨x, H1, I1, r1, q1⟩ => ?_
  obtain ⟨i, rfl, q⟩ := q1
  obtain ⟨t, rfl⟩ := r1
  exact ⟨some i, H1, I1, .int i t, q⟩
def SlR (X : Cx) (r : V -> Option Int -> Option Int -> Hp -> VK -> Prop) : Prop :=
  ∀ (pins : List (Addr × Obj)) (s : Shared) (σ : St) (H : Hp) (x : V) (v vl vu : Value) (lo hi : Option Int) (sl : Addr) (Q : VK), Inv X pins σ H s -> RelV x v -> s.heap.IsSliceOf sl vl vu .none -> IsPart vl lo -> IsPart vu hi -> r x lo hi H Q ->
    ∃ T id, typeLookup (.type T) "__getitem__" = pure (some (.builtin id)) /\ s.TypeIs v T /\ wpAny (model X.prog X.w) X.A (getItem v (.ref sl)) (EP X pins σ Q) X.xe s
def tSl (r : V -> Option Int -> Option Int -> Hp -> VK -> Prop) (te : TE) (tl th : TO) : TE := fun σ H Q => te σ H fun x H1 => tl σ H1 fun l H2 => th σ H2 fun u H3 => r x l u H3 Q
theorem pe_slice {r : V -> Option Int -> Option Int -> Hp -> VK -> Prop} (hr : SlR X r) (he : PE X e te) (hl : PO X lo tl) (hu : PO X hi th) : PE X (.Subscript e (.Slice lo hi none p2) pos) (tSl r te tl th) := by
  intro pins s σ H Q I h
  refine Subscript_ (thn (he pins s σ H _ I h) fun v s1 ⟨x, H1, I1, r1, q1⟩ => ?_)
  refine wpAny_Slice (thn (hl pins s1 σ H1 _ I1 q1) fun vl s2 ⟨l, H2, I2, pl, q2⟩ => thn (hu pins s2 σ H2 _ I2 q2) fun vu s3 ⟨u, H3, I3, pu, q3⟩ => ?_)
  rw [evalPart_none]
  refine wpAny_pure ?_
  have I4 : Inv X pins σ H3 { s3 with heap := s3.heap.push { cls := .type "slice", data := .fields #[vl, vu, .none] } } := I3.kept (t' := s3.toks) fun b ob q => Heap.get?_push_of_some _ q
  obtain ⟨T, id, hT, ht, hg⟩ := hr pins { s3 with heap := s3.heap.push { cls := .type "slice", data := .fields #[vl, vu, .none] } } σ H3 x v vl vu l u s3.heap.objs.size Q I4 r1 (Heap.IsSliceOf.new ..) pl pu q3
  show wpAny (model X.prog X.w) X.A (subscriptTail e (.Slice lo hi none p2) v (.ref s3.heap.objs.size)) (EP X pins σ Q) X.xe { s3 with heap := s3.heap.push { cls := .type "slice", data := .fields #[vl, vu, .none] } }
  exact tail_any (ops := [.ref s3.heap.objs.size, v]) ht hT hg (by with_unfolding_all rfl)
def cutV (xs : List V) (lo hi : Option Int) : List V := (xs.drop (HT.sIx xs.length 0 lo)).take (HT.sIx xs.length xs.length hi - HT.sIx xs.length 0 lo)
theorem cutV_length (xs : List V) (lo hi : Option Int) : (cutV xs lo hi).length <= xs.length := by
  unfold cutV
  rw [List.length_take, List.length_drop]
  lia
def rSlT (K : PySem.W.Frag) : V -> Option Int -> Option Int -> Hp -> VK -> Prop := fun x lo hi H Q => ∃ a xs, x = .ref a /\ SqT K H a xs /\
  ¬ (HT.sIx xs.length 0 lo = 0 /\ HT.sIx xs.length xs.length hi = xs.length) /\ ∀ p, H p = none -> Q (.ref p) (upd H p (.tup (cutV xs lo hi)))
theorem sl_tup : SlR X (rSlT X.K) := by
  intro pins s σ H x v vl vu lo hi sl Q I rx hs pl pu h
  obtain ⟨a, xs, rfl, hx, hw, q⟩ := h
  cases rx
  obtain ⟨its, r, ht, hz⟩ := I.tuple hx
  have hlen : its.toArray.size = xs.length := by rw [List.size_toArray]; exact r.length.symm
  refine ⟨"tuple", _, PyProof.Rows.slot_tuple_getitem.lookup, ht.typeIs, ?_⟩
  refine HT.getItem_tuple_cut ht hs pl pu (by rw [hlen]; exact hw) ?_ (by rw [hlen]; exact hz)
  rw [hlen]
  refine ⟨.ref s.heap.objs.size, _, I.laid (t' := s.toks) (o := .tup (cutV xs lo hi)) (fun b ob q => Heap.get?_push_of_some _ q) (Nat.le_refl _) ?_, rfl, q _ (I.hok.fresh (Nat.le_refl _))⟩
  exact ⟨Nat.le_trans (cutV_length xs lo hi) hz, _, (r.drop (HT.sIx xs.length 0 lo)).take (HT.sIx xs.length xs.length hi - HT.sIx xs.length 0 lo), IsTup.new _ _⟩
def rCatT (K : PySem.W.Frag) : R2 := fun x y H Q => ∃ a b xs ys, x = .ref a /\ y = .ref b /\ SqT K H a xs /\ SqT K H b ys /\ xs ≠ [] /\ xs.length + ys.length <= sizeLine /\
  (ys = [] -> Q (.ref a) H) /\ (ys ≠ [] -> ∀ p, H p = none -> Q (.ref p) (upd H p (.tup (xs ++ ys))))
theorem Vals.nil_iff {xs : List V} {us : List Value} (r : Vals xs us) : us = [] ↔ xs = [] := by
  cases r with
  | nil => simp
  | cons _ _ => simp
theorem op_catT : OpR X (binaryOp .Add) (rCatT X.K) := by
  intro pins s σ H x y v u Q I rx ry h
  obtain ⟨a, b, xs, ys, rfl, rfl, ha, hb, hx, hz, q1, q2⟩ := h
  cases rx
  cases ry
  obtain ⟨its, r1, p1, _⟩ := I.tuple ha
  obtain ⟨its2, r2, p2, _⟩ := I.tuple hb
  refine HT.cat_tup p1 p2 (fun z => hx (r1.nil_iff.mp z)) (fun z => ⟨.ref a, H, I, rfl, q1 (r2.nil_iff.mp z)⟩) (fun z => ?_) (by rw [<- r1.length, <- r2.length]; exact hz)
  refine ⟨.ref s.heap.objs.size, _, I.laid (t' := s.toks) (o := .tup (xs ++ ys)) (fun b ob q => Heap.get?_push_of_some _ q) (Nat.le_refl _) ?_, rfl, q2 (fun w => z (r2.nil_iff.mpr w)) _ (I.hok.fresh (Nat.le_refl _))⟩
  exact ⟨by rw [List.length_append]; exact hz, _, r1.append r2, IsTup.new _ _⟩
end
def ixN (n : Nat) (i : Int) : Option Nat := if 0 <= i then (if i < n then some i.toNat else none) else if -(n : Int) <= i then some (i + n).toNat else none
def atI {α : Type} (xs : List α) (i : Int) : Option α := (ixN xs.length i).bind fun j => xs[j]?
theorem ixN_seq {n : Nat} {i : Int} {j : Nat} (h : ixN n i = some j) : seqIndex? i n = some j /\ j < n /\ -(n : Int) <= i /\ i < n := by
  unfold ixN at h
  by_cases h0 : 0 <= i
  · rw [if_pos h0] at h
    by_cases h1 : i < n
    · rw [if_pos h1] at h
      have e : i.toNat = j := Option.some.inj h
      exact ⟨by rw [seqIndex_of h0 h1, e], by lia, by lia, h1⟩
    · rw [if_neg h1] at h; cases h
  · rw [if_neg h0] at h
    by_cases h1 : -(n : Int) <= i
    · rw [if_pos h1] at h
      have e : (i + n).toNat = j := Option.some.inj h
      exact ⟨by rw [seqIndex_neg (by lia) h1, e], by lia, h1, by lia⟩
    · rw [if_neg h1] at h; cases h
theorem atI_get {α : Type} {xs : List α} {i : Int} {v : α} (h : atI xs i = some v) : ∃ j, seqIndex? i xs.length = some j /\ xs[j]? = some v /\ j < xs.length /\ -(xs.length : Int) <= i /\ i < xs.length := by
  unfold atI at h
  cases e : ixN xs.length i with
  | none => rw [e] at h; cases h
  | some j =>
    rw [e] at h
    obtain ⟨h1, h2, h3, h4⟩ := ixN_seq e
    exact ⟨j, h1, h, h2, h3, h4⟩
theorem atI_nat {α : Type} {xs : List α} {j : Nat} {v : α} (h : xs[j]? = some v) : atI xs (j : Int) = some v := by
  have hj : j < xs.length := (List.getElem?_eq_some_iff.mp h).1
  have e : ixN xs.length (j : Int) = some j := by
    unfold ixN
    rw [if_pos (by lia), if_pos (by lia)]; simp
  unfold atI; rw [e]; exact h
def PlainIx (b : Expr) : Prop := ∀ o i, subscripted b false o i = operate [o, i] (getItem o i)
def IxR (X : Cx) (r : R2) : Prop :=
  ∀ (value slice : Expr) (pins : List (Addr × Obj)) (s : Shared) (σ : St) (H : Hp) (x y : V) (v u : Value) (Q : VK), Inv X pins σ H s -> RelV x v -> RelV y u -> r x y H Q ->
    subscripted slice false v u = operate [v, u] (getItem v u) -> wpAny (model X.prog X.w) X.A (subscriptTail value slice v u) (EP X pins σ Q) X.xe s
def MtR (X : Cx) (id : String) (r : V -> List V -> Hp -> VK -> Prop) : Prop :=
  ∀ (pins : List (Addr × Obj)) (s : Shared) (σ : St) (H : Hp) (x : V) (xs : List V) (v : Value) (us : List Value) (Q : VK), Inv X pins σ H s -> RelV x v -> Vals xs us -> r x xs H Q ->
    wpAny (model X.prog X.w) X.A (call (.builtin id) (v :: us)) (EP X pins σ Q) X.xe s
section
variable {X : Cx} {a b : Expr} {ta tb : TE} {pos : Pos}
theorem pe_ix {r : R2} (hr : IxR X r) (ha : PE X a ta) (hb : PE X b tb) (hs : PlainIx b) : PE X (.Subscript a b pos) (tOp r ta tb) := by
  intro pins s σ H Q I h
  exact Subscript_ (binT ha hb I h fun v u s2 x y H2 I2 rx ry q => hr a b pins s2 σ H2 x y v u Q I2 rx ry q (hs _ _))
def rIxL (K : PySem.W.Frag) : R2 := fun x y H Q => ∃ p xs i v, x = .ref p /\ y = .int i /\ SqL K H p xs /\ atI xs i = some v /\ Q v H
def rIxT (K : PySem.W.Frag) : R2 := fun x y H Q => ∃ p xs i v, x = .ref p /\ y = .int i /\ SqT K H p xs /\ atI xs i = some v /\ Q v H
def rIxS : R2 := fun x y H Q => ∃ z i c, x = .str z /\ y = .int i /\ z.length <= sizeLine /\ atI z.cps.toList i = some c /\ Q (.str ⟨#[c]⟩) H
theorem ix_list : IxR X (rIxL X.K) := by
  intro value slice pins s σ H x y v u Q I rx ry h hs
  obtain ⟨p, xs, i, z, rfl, rfl, hq, he, q⟩ := h
  cases rx
  obtain ⟨t, rfl⟩ := ry
  obtain ⟨its, r, pl, hz⟩ := I.list hq
  obtain ⟨j, h1, h2, h3, h4, h5⟩ := atI_get he
  obtain ⟨w, ew, rw'⟩ := r.get h2
  have hl := r.length
  have hn := line63
  have fin : EP X pins σ Q w s := ⟨z, H, I, rw', q⟩
  by_cases h0 : 0 <= i
  · have hj : i.toNat = j := by
      rw [seqIndex_of h0 h5] at h1
      exact Option.some.inj h1
    exact item_listR pl.isList h0 (by lia) (by rw [hj]; simpa using ew) fin hs
  · have hj : (i + (its.toArray.size : Int)).toNat = j := by
      rw [seqIndex_neg (by lia) h4] at h1
      rw [List.size_toArray, <- hl]
      exact Option.some.inj h1
    exact subscriptTail_builtinR (x := w) pl.isList.typeIs slot_list_getitem.lookup
      (wpAny_getItem_list_neg (Q := fun r s' => r = w /\ EP X pins σ Q r s') pl.isList (by lia) (by rw [List.size_toArray] <;> lia) (by lia) (by rw [hj]; simpa using ew) ⟨rfl, fin⟩) hs
theorem ix_tup : IxR X (rIxT X.K) := by
  intro value slice pins s σ H x y v u Q I rx ry h hs
  obtain ⟨p, xs, i, z, rfl, rfl, hq, he, q⟩ := h
  cases rx
  obtain ⟨t, rfl⟩ := ry
  obtain ⟨its, r, pl, hz⟩ := I.tuple hq
  obtain ⟨j, h1, h2, h3, h4, h5⟩ := atI_get he
  obtain ⟨w, ew, rw'⟩ := r.get h2
  have hl := r.length
  have hn := line63
  have fin : EP X pins σ Q w s := ⟨z, H, I, rw', q⟩
  exact subscriptTail_builtinR (x := w) pl.typeIs slot_tuple_getitem.lookup
    (getItem_tuple (j := j) (Q := fun r s' => r = w /\ EP X pins σ Q r s') pl (by lia) (by lia) (by rw [List.size_toArray, <- hl]; exact h1) (by simpa using ew) ⟨rfl, fin⟩) hs
theorem ix_str : IxR X rIxS := by
  intro value slice pins s σ H x y v u Q I rx ry h hs
  obtain ⟨z, i, c, rfl, rfl, hz, he, q⟩ := h
  obtain ⟨t, rfl⟩ := rx
  obtain ⟨t', rfl⟩ := ry
  obtain ⟨j, h1, h2, h3, h4, h5⟩ := atI_get he
  have hl : z.cps.toList.length = z.length := by simp [Str.length]
  rw [hl] at h1 h4 h5
  have hn := line63
  exact tail_any (typeIs_str s z t) slot_str_getitem.lookup (getItem_str (c := c) (by
    have e1 : decide (i < -(2 ^ 63 : Int)) = false := decide_eq_false (by lia)
    have e2 : decide (i >= 2 ^ 63) = false := decide_eq_false (by lia)
    rw [e1, e2, Bool.or_false]) (by rw [h1]; simpa using h2) ⟨.str ⟨#[c]⟩, H, I.tok _, ⟨_, rfl⟩, q⟩) hs
theorem mapSeq_set (its : List Value) (n j : Nat) (u : Value) : Obj.mapSeq (·.setIfInBounds j u) { cls := .type "list", data := .seq its.toArray n } = { cls := .type "list", data := .seq (its.set j u).toArray n } := by
  simp [Obj.mapSeq]
theorem Inv.lst {pins : List (Addr × Obj)} {σ : St} {H : Hp} {s : Shared} {p : Addr} {xs : List V} (I : Inv X pins σ H s) (h : H p = some (.lst xs)) :
    ∃ (its : List Value) (n : Nat), Vals xs its /\ s.heap.get? p = some { cls := .type "list", data := .seq its.toArray n } /\ xs.length <= sizeLine := by
  obtain ⟨z, its, n, r, e⟩ := I.hok p _ h
  exact ⟨its, n, r, e, z⟩
theorem Inv.lstUpd {pins : List (Addr × Obj)} {σ : St} {H : Hp} {s : Shared} {p : Addr} {xs ys : List V} {its its' : List Value} {n n' : Nat} {f : Obj -> Obj} (I : Inv X pins σ H s) (h : H p = some (.lst xs))
    (ho : s.heap.get? p = some { cls := .type "list", data := .seq its.toArray n }) (hf : f { cls := .type "list", data := .seq its.toArray n } = { cls := .type "list", data := .seq its'.toArray n' }) (r : Vals ys its') (hz : ys.length <= sizeLine) (t : Nat) :
    Inv X pins σ (upd H p (.lst ys)) { s with heap := s.heap.update p f, toks := t } := by
  have e : (s.heap.update p f).get? p = some { cls := .type "list", data := .seq its'.toArray n' } := by
    rw [Heap.get?_update_self f ho (by rw [hf] <;> rfl), hf]
  refine I.write (x := p) (e := p) (by rw [h]; trivial) (.inl rfl) (fun b u hb q => (Heap.get?_update_other _ _ (Ne.symm hb)).trans q) ⟨_, e⟩ ?_
  exact ⟨hz, its', n', r, e⟩
def rSetL : V -> V -> V -> Hp -> (Hp -> Prop) -> Prop := fun o i v H Q => ∃ p xs k j, o = .ref p /\ i = .int k /\ H p = some (.lst xs) /\ ixN xs.length k = some j /\ Q (upd H p (.lst (xs.set j v)))
theorem set_list : PSet X rSetL := by
  intro pins s σ H o i v ov iv u Q I ro ri rv h
  obtain ⟨p, xs, k, j, rfl, rfl, hp, hj, q⟩ := h
  cases ro
  obtain ⟨t, rfl⟩ := ri
  obtain ⟨its, n, r, ho, hz⟩ := I.lst hp
  obtain ⟨h1, h2, h3, h4⟩ := ixN_seq hj
  have hl := r.length
  have hn := line63
  have I' : Inv X pins σ (upd H p (.lst (xs.set j v))) { s with heap := s.heap.update p (Obj.mapSeq (·.setIfInBounds j u)) } :=
    I.lstUpd hp ho (mapSeq_set its n j u) (r.set rv j) (by rw [List.length_set]; exact hz) s.toks
  by_cases h0 : 0 <= k
  · have hk : k.toNat = j := by
      rw [seqIndex_of h0 h4] at h1
      exact Option.some.inj h1
    exact PySem.W.ki_setAt ho h0 (by lia) (by rw [List.size_toArray, <- hl]; exact h4) (by rw [hk]; exact ⟨_, I', q⟩)
  · have hk : (k + (its.toArray.size : Int)).toNat = j := by
      rw [seqIndex_neg (by lia) h3] at h1
      rw [List.size_toArray, <- hl]
      exact Option.some.inj h1
    exact PySem.W.ki_setBack ho (by lia) (by rw [List.size_toArray, <- hl]; exact h3) (by lia) (by rw [hk]; exact ⟨_, I', q⟩)
theorem slice_bounds (lo hi : Option Int) (n : Nat) : (sliceBounds lo hi none n).1 = ((HT.sIx n 0 lo : Nat) : Int) /\ (sliceBounds lo hi none n).2.1 = ((HT.sIx n n hi : Nat) : Int) /\ (sliceBounds lo hi none n).2.2 = 1 := by
  refine ⟨?_, ?_, rfl⟩
  · cases lo with
    | none => simp [sliceBounds, HT.sIx]
    | some i =>
      simp only [sliceBounds, HT.sIx, Option.getD_none, show (1 : Int) > 0 by decide, if_true]
      by_cases h : i < 0
      · simp only [h, if_true] <;> lia
      · simp only [h, if_false] <;> lia
  · cases hi with
    | none => simp [sliceBounds, HT.sIx]
    | some i =>
      simp only [sliceBounds, HT.sIx, Option.getD_none, show (1 : Int) > 0 by decide, if_true]
      by_cases h : i < 0
      · simp only [h, if_true] <;> lia
      · simp only [h, if_false] <;> lia
theorem slicePick_cut (its : List Value) (lo hi : Option Int) : slicePick its.toArray lo hi none = ((its.drop (HT.sIx its.length 0 lo)).take (HT.sIx its.length its.length hi - HT.sIx its.length 0 lo)).toArray := by
  obtain ⟨h1, h2, h3⟩ := slice_bounds lo hi its.toArray.size
  unfold slicePick
  rw [h1, h2, h3]
  simp only [sliceRange_one, pick_run, List.size_toArray] <;> rfl
def rSlL (K : PySem.W.Frag) : V -> Option Int -> Option Int -> Hp -> VK -> Prop := fun x lo hi H Q => ∃ a xs, x = .ref a /\ SqL K H a xs /\ ∀ p, H p = none -> Q (.ref p) (upd H p (.lst (cutV xs lo hi)))
theorem sl_list : SlR X (rSlL X.K) := by
  intro pins s σ H x v vl vu lo hi sl Q I rx hs pl pu h
  obtain ⟨a, xs, rfl, hx, q⟩ := h
  cases rx
  obtain ⟨its, r, ht, hz⟩ := I.list hx
  have hlen := r.length
  refine ⟨"list", _, slot_list_getitem.lookup, ht.isList.typeIs, ?_⟩
  refine wpAny_getItem_list_slice ht.isList hs pl pu .none (by simp) ?_ (by rw [List.size_toArray] <;> lia)
  rw [slicePick_cut, <- hlen]
  refine ⟨.ref s.heap.objs.size, _, I.laid (t' := s.toks) (o := .lst (cutV xs lo hi)) (fun b ob q => Heap.get?_push_of_some _ q) (Nat.le_refl _) ?_, rfl, q _ (I.hok.fresh (Nat.le_refl _))⟩
  exact ⟨Nat.le_trans (cutV_length xs lo hi) hz, _, 0, (r.drop (HT.sIx xs.length 0 lo)).take (HT.sIx xs.length xs.length hi - HT.sIx xs.length 0 lo), Heap.get?_push_size _ rfl⟩
def flatV : V -> Bool
  | .non => true
  | .bl _ => true
  | .int _ => true
  | .str _ => true
  | _ => false
def eqV : V -> V -> Bool
  | .non, .non => true
  | .bl a, .bl b => a == b
  | .bl a, .int b => (if a then 1 else 0) == b
  | .int a, .bl b => a == (if b then 1 else 0)
  | .int a, .int b => a == b
  | .str a, .str b => a == b
  | _, _ => false
theorem eqAt_V {A : Around} {s : Shared} {y x : V} {u v : Value} (ry : RelV y u) (rx : RelV x v) (fy : flatV y = true) (fx : flatV x = true) : SeqAt.EqAt A s u v (eqV y x) := by
  cases y with
  | non =>
    cases ry
    cases x with
    | non => cases rx; exact SeqAt.EqAt.same _
    | bl b => cases rx; exact SeqAt.EqAt.none_bool b
    | int b => obtain ⟨t, rfl⟩ := rx; exact SeqAt.EqAt.none_int b t
    | str b => obtain ⟨t, rfl⟩ := rx; exact SeqAt.EqAt.none_str b t
    | _ => exact absurd (show false = true from fx) Bool.false_ne_true
  | bl a =>
    cases ry
    cases x with
    | non => cases rx; exact SeqAt.EqAt.bool_none a
    | bl b => cases rx; exact SeqAt.EqAt.bool_bool a b
    | int b => obtain ⟨t, rfl⟩ := rx; exact SeqAt.EqAt.bool_int a b t
    | str b => obtain ⟨t, rfl⟩ := rx; exact SeqAt.EqAt.bool_str a b t
    | _ => exact absurd (show false = true from fx) Bool.false_ne_true
  | int a =>
    obtain ⟨t', rfl⟩ := ry
    cases x with
    | non => cases rx; exact SeqAt.EqAt.int_none a t'
    | bl b => cases rx; exact SeqAt.EqAt.int_bool a t' b
    | int b => obtain ⟨t, rfl⟩ := rx; exact SeqAt.EqAt.int_int a t' b t
    | str b => obtain ⟨t, rfl⟩ := rx; exact SeqAt.EqAt.int_str a t' b t
    | _ => exact absurd (show false = true from fx) Bool.false_ne_true
  | str a =>
    obtain ⟨t', rfl⟩ := ry
    cases x with
    | non => cases rx; exact SeqAt.EqAt.str_none a t'
    | bl b => cases rx; exact SeqAt.EqAt.str_bool a t' b
    | int b => obtain ⟨t, rfl⟩ := rx; exact SeqAt.EqAt.str_int a t' b t
    | str b => obtain ⟨t, rfl⟩ := rx; exact SeqAt.EqAt.str_str a t' b t
    | _ => exact absurd (show false = true from fx) Bool.false_ne_true
  | _ => exact absurd (show false = true from fy) Bool.false_ne_true
theorem call_len_seq : CallR X (.builtin "len") (fun xs H Q => ∃ p ys, xs = [.ref p] /\ (SqL X.K H p ys \/ SqT X.K H p ys) /\ Q (.int ys.length) H) := by
  intro pins s σ H xs us Q I r h
  obtain ⟨p, ys, rfl, hq, q⟩ := h
  obtain ⟨u, rfl, rx⟩ := vals1 r
  cases rx
  have hn := line63
  rcases hq with hq | hq
  · obtain ⟨its, r', pl, hz⟩ := I.list hq
    have hlen := r'.length
    exact Calls.call_len_list pl.isList (by simp only [List.size_toArray] <;> lia) ⟨.int ys.length, H, I.tok _, ⟨s.toks + 1, by rw [List.size_toArray, hlen]⟩, q⟩
  · obtain ⟨its, r', pl, hz⟩ := I.tuple hq
    have hlen := r'.length
    exact len_tuple pl (by simp only [List.size_toArray] <;> lia) ⟨.int ys.length, H, I.tok _, ⟨s.toks + 1, by rw [List.size_toArray, hlen]⟩, q⟩
theorem call_len_str : CallR X (.builtin "len") (fun xs H Q => ∃ z, xs = [.str z] /\ z.length <= sizeLine /\ Q (.int z.length) H) := by
  intro pins s σ H xs us Q I r h
  obtain ⟨z, rfl, hz, q⟩ := h
  obtain ⟨u, rfl, t, rfl⟩ := vals1 r
  have hn := line63
  exact len_str (by lia) ⟨.int z.length, H, I.tok _, ⟨_, rfl⟩, q⟩
theorem call_tuple_of : CallR X (.type "tuple") (fun xs H Q => ∃ p ys, xs = [.ref p] /\ ((SqL X.K H p ys /\ ∀ l, H l = none -> Q (.ref l) (upd H l (.tup ys))) \/ (SqT X.K H p ys /\ Q (.ref p) H))) := by
  intro pins s σ H xs us Q I r h
  obtain ⟨p, ys, rfl, h⟩ := h
  obtain ⟨u, rfl, rx⟩ := vals1 r
  cases rx
  rcases h with ⟨hq, q⟩ | ⟨hq, q⟩
  · obtain ⟨its, r', pl, hz⟩ := I.list hq
    have hlen := r'.length
    refine call_tuple_list pl.isList (fun h' kp => ?_) (by simp only [List.size_toArray] <;> lia)
    have I1 : Inv X pins σ H { s with heap := h' } := I.kept (t' := s.toks) kp
    have I2 : Inv X pins σ (upd H h'.objs.size (.tup ys)) { s with heap := h'.push { cls := .type "tuple", data := .seq its.toArray } } :=
      I1.laid (t' := s.toks) (fun b o e => Heap.get?_push_of_some _ e) (Nat.le_refl _) (show ObjOk X.prog X.w _ _ _ (.tup ys) from ⟨hz, its, r', IsTup.new _ _⟩)
    exact ⟨.ref h'.objs.size, _, I2, rfl, q _ (I1.hok.fresh (Nat.le_refl _))⟩
  · obtain ⟨its, r', pl, hz⟩ := I.tuple hq
    exact call_tuple_same pl ⟨.ref p, H, I, rfl, q⟩
def tyV (K : PySem.W.Frag) (T : String) (x : V) (H : Hp) : Prop := match x with
  | .str _ => T = "str"
  | .int _ => T = "int"
  | .ref p => (T = "list" /\ ∃ xs, SqL K H p xs) \/ (T = "tuple" /\ ∃ o, K.lookup p = some o /\ o.cls = .type "tuple" /\ o.dict = none) \/
      (T = "dict" /\ ((∃ kvs, H p = some (.dK kvs)) \/ ∃ kvs, H p = some (.dT kvs))) \/ (T = "set" /\ ∃ S n, H p = some (.set S n))
  | _ => False
theorem tyV_is {pins : List (Addr × Obj)} {σ : St} {H : Hp} {s : Shared} {T : String} {x : V} {v : Value} (I : Inv X pins σ H s) (r : RelV x v) (ty : tyV X.K T x H) :
    s.TypeIs v T /\ ∀ a, v = .ref a -> ∃ ob, s.heap.get? a = some ob /\ ob.dict = none := by
  cases x with
  | str z =>
    obtain ⟨t, rfl⟩ := r
    cases (show T = "str" from ty)
    exact ⟨typeIs_str s z t, fun _ e => nomatch e⟩
  | int i =>
    obtain ⟨t, rfl⟩ := r
    cases (show T = "int" from ty)
    exact ⟨typeIs_int s i t, fun _ e => nomatch e⟩
  | ref p =>
    cases r
    rcases ty with ⟨rfl, xs, hq⟩ | ⟨rfl, o, hk, hc, hd⟩ | ⟨rfl, hk⟩ | ⟨rfl, S, n, hk⟩
    · obtain ⟨its, _, pl, _⟩ := I.list hq
      refine ⟨pl.isList.typeIs, fun a e => ?_⟩
      cases e
      obtain ⟨o, n, e, c, hd, _⟩ := pl
      exact ⟨o, e, hd⟩
    · refine ⟨⟨o, I.kIn p o hk, hc⟩, fun a e => ?_⟩
      cases e
      exact ⟨o, I.kIn _ o hk, hd⟩
    · have z : ∃ o, s.heap.get? p = some o /\ o.ExactDict := by
        rcases hk with ⟨kvs, hk⟩ | ⟨kvs, hk⟩
        · obtain ⟨_, _, _, _, o, _, _, e, ex, _⟩ := I.hok p _ hk
          exact ⟨o, e, ex⟩
        · obtain ⟨_, _, _, _, o, _, _, e, ex, _⟩ := I.hok p _ hk
          exact ⟨o, e, ex⟩
      obtain ⟨o, e, ex⟩ := z
      refine ⟨⟨o, e, ex.1⟩, fun a e2 => ?_⟩
      cases e2
      exact ⟨o, e, ex.2.1⟩
    · obtain ⟨o, _, _, _, e, ex, _⟩ := I.hok p _ hk
      refine ⟨⟨o, e, ex.1⟩, fun a e2 => ?_⟩
      cases e2
      exact ⟨o, e, ex.2.1⟩
  | _ => exact False.elim ty
def tBM0 (K : PySem.W.Frag) (T : String) (r : V -> List V -> Hp -> VK -> Prop) (to : TE) : TE := fun σ H Q => to σ H fun x H1 => tyV K T x H1 /\ r x [] H1 Q
def tBM (K : PySem.W.Frag) (T : String) (r : V -> List V -> Hp -> VK -> Prop) (to : TE) (t : TA) : TE := fun σ H Q => to σ H fun x H1 => tyV K T x H1 /\ t σ H1 fun xs H2 => r x xs H2 Q
variable {o e : Expr} {es : List Expr} {to : TE} {t : TA} {name : Str} {apos cpos : Pos} {T id : String} {r : V -> List V -> Hp -> VK -> Prop}
theorem pe_bm0 (pa : PlainAttrs T) (slot : Slot T name id) (hty : typeOf (.builtin id) = pure (.type "method_descriptor")) (hm : MtR X id r) (ho : PE X o to)
    (hbase : attributeBase o name X.env (eval o X.env) = eval o X.env := by rfl) (hline : (apos.endLine == cpos.line) = true := by rfl) : PE X (.Call (.Attribute o name apos) [] [] cpos) (tBM0 X.K T r to) := by
  intro pins s σ H Q I h
  refine wpAny_Call_method0_late hbase hline (thn (ho pins s σ H _ I h) fun v s1 ⟨x, H1, I1, r1, ty, q1⟩ => ?_)
  obtain ⟨h1, h2⟩ := tyV_is I1 r1 ty
  exact ⟨T, id, pa, slot, hty, h1, h2, Calls.callWith_builtin rfl (PySem.evalArgs_none (hm pins s1 σ H1 x [] v [] Q I1 r1 .nil q1))⟩
theorem pe_bm (pa : PlainAttrs T) (slot : Slot T name id) (hty : typeOf (.builtin id) = pure (.type "method_descriptor")) (hm : MtR X id r) (ho : PE X o to) (ha : PA X (e :: es) t)
    (hbase : attributeBase o name X.env (eval o X.env) = eval o X.env := by rfl)
    (hfew : ((backTo cpos (starEach (e :: es) X.env)).all (fun x => !x.1) && (backToKw cpos (keywordEach [] X.env)).all (fun x => x.1.isSome)
      && decide ((e :: es).length + ([] : List Keyword).length + (if ([] : List Keyword).isEmpty then 0 else 1) < 30)) = true := by rfl)
    (hline : (apos.endLine == cpos.line) = true := by rfl) (hs : starEach (e :: es) X.env = (false, eval e X.env) :: starEach es X.env := by rfl) (hplain : (backTo cpos (starEach es X.env)).any (·.1) = false := by rfl) :
    PE X (.Call (.Attribute o name apos) (e :: es) [] cpos) (tBM X.K T r to t) := by
  intro pins s σ H Q I h
  refine wpAny_Call_method_late hbase hfew hline rfl (thn (ho pins s σ H _ I h) fun v s1 ⟨x, H1, I1, r1, ty, q1⟩ => ?_)
  obtain ⟨h1, h2⟩ := tyV_is I1 r1 ty
  refine ⟨T, id, pa, slot, hty, h1, h2, ?_⟩
  have hA := ha cpos pins s1 σ H1 _ I1 q1
  rw [hs] at hA ⊢
  refine Calls.callWith_builtin (by show (false || (backTo cpos (starEach es X.env)).any (·.1)) = false; rw [hplain] <;> rfl) (Calls.evalArgs_plain ?_)
  exact thn hA fun us s2 ⟨vs, H2, I2, r2, q2⟩ => hm pins s2 σ H2 x vs v us Q I2 r1 r2 q2
/- xs.append(e), list.index on a module's tuple .. are MtR facts of 06m -/
end
def MtM (X : Cx) (id : String) (r : V -> List V -> Hp -> VK -> Prop) : Prop :=
  ∀ (pins : List (Addr × Obj)) (s : Shared) (σ : St) (H : Hp) (x : V) (xs : List V) (v : Value) (us : List Value) (Q : VK), Inv X pins σ H s -> RelV x v -> Vals xs us -> r x xs H Q ->
    wpAny (model X.prog X.w) X.A (call (.builtin id) (v :: us)) (EP X pins σ Q) X.xe s
theorem Vals.one : ∀ {x : V} {us : List Value}, Vals [x] us -> ∃ u, us = [u] /\ RelV x u
  | _, _, .cons r .nil => ⟨_, rfl, r⟩
theorem Vals.two : ∀ {x y : V} {us : List Value}, Vals [x, y] us -> ∃ u v, us = [u, v] /\ RelV x u /\ RelV y v := by
  intro x y us h
  cases h with
  | cons r h => cases h with
    | cons q h => cases h; exact ⟨_, _, rfl, r, q⟩
theorem Vals.zero : ∀ {us : List Value}, Vals [] us -> us = []
  | _, .nil => rfl
theorem Vals.reverse {xs : List V} {us : List Value} (h : Vals xs us) : Vals xs.reverse us.reverse := by
  induction h with
  | nil => exact .nil
  | cons r t ih => rw [List.reverse_cons, List.reverse_cons]; exact Vals.append ih (.cons r .nil)
section
variable {X : Cx} {pins : List (Addr × Obj)} {σ : St} {H : Hp} {s : Shared} {l b : Addr} {xs ys zs : List V}
theorem Inv.lset {its its' : List Value} {n : Nat} {f : Array Value -> Array Value} {t' : Nat} (I : Inv X pins σ H s) (hH : H l = some (.lst xs))
    (e : s.heap.get? l = some { cls := .type "list", data := .seq its.toArray n }) (hf : f its.toArray = its'.toArray) (hv : Vals ys its') (hz : ys.length <= sizeLine) :
    Inv X pins σ (upd H l (.lst ys)) { s with heap := s.heap.update l (Obj.mapSeq f), toks := t' } := by
  have q := PySem.IsL.update e f
  rw [hf] at q
  refine I.write (x := l) (e := l) (by rw [hH]; exact trivial) (.inl rfl) (fun b' u hb hu => (Heap.get?_update_other s.heap (Obj.mapSeq f) (Ne.symm hb)).trans hu) ⟨_, q⟩ ?_
  exact ⟨hz, its', _, hv, q⟩
theorem Inv.lnew {its : List Value} {t' : Nat} (I : Inv X pins σ H s) (hv : Vals ys its) (hz : ys.length <= sizeLine) :
    Inv X pins σ (upd H s.heap.objs.size (.lst ys)) { s with heap := s.heap.push { cls := .type "list", data := .seq its.toArray }, toks := t' } :=
  I.laid (fun _ _ q => Heap.get?_push_of_some _ q) (Nat.le_refl _) ⟨hz, its, 0, hv, Heap.get?_push_size _ rfl⟩
theorem Inv.fresh (I : Inv X pins σ H s) : H s.heap.objs.size = none := I.hok.fresh (Nat.le_refl _)
theorem Inv.lstM (I : Inv X pins σ H s) (hH : H l = some (.lst xs)) : xs.length <= sizeLine /\ ∃ (its : List Value) (n : Nat), Vals xs its /\ xs.length = its.length /\ s.heap.get? l = some { cls := .type "list", data := .seq its.toArray n } := by
  obtain ⟨z, its, n, r, e⟩ := I.hok l _ hH
  exact ⟨z, its, n, r, r.length, e⟩
theorem notLongL {n : Nat} (h : n <= sizeLine) : Builtin.List.listTooLong n = false := by
  unfold Builtin.List.listTooLong
  exact decide_eq_false (by lia)
end
section
variable {X : Cx}
def rAppend : V -> List V -> Hp -> VK -> Prop := fun x vs H Q => ∃ l xs y, x = .ref l /\ vs = [y] /\ H l = some (.lst xs) /\ xs.length < sizeLine /\ Q .non (upd H l (.lst (xs ++ [y])))
theorem mt_append : MtM X "list.append" rAppend := by
  intro pins s σ H x vs v us Q I rx rv h
  obtain ⟨l, xs, y, rfl, rfl, hH, hz, q⟩ := h
  cases rx
  obtain ⟨u, rfl, ru⟩ := rv.one
  obtain ⟨z, its, n, r, hl, e⟩ := I.lstM hH
  refine call_meets F.slot_list_append ⟨_, e, rfl⟩ F.entry_list_append (F.args_list_append_2 _ _) (PySem.list_append l its.toArray n u (by rw [List.size_toArray]; lia)) ⟨e, ?_⟩
  refine ⟨.non, _, I.lset (its' := its ++ [u]) hH e (by simp) (r.append (.cons ru .nil)) ?_, rfl, q⟩
  rw [List.length_append, List.length_singleton]
  lia
def rExtend : V -> List V -> Hp -> VK -> Prop := fun x vs H Q => ∃ l b xs zs, x = .ref l /\ vs = [.ref b] /\ H l = some (.lst xs) /\ H b = some (.lst zs) /\ xs.length + zs.length <= sizeLine /\ Q .non (upd H l (.lst (xs ++ zs)))
theorem mt_extend : MtM X "list.extend" rExtend := by
  intro pins s σ H x vs v us Q I rx rv h
  obtain ⟨l, b, xs, zs, rfl, rfl, hH, hB, hz, q⟩ := h
  cases rx
  obtain ⟨u, rfl, ru⟩ := rv.one
  cases ru
  obtain ⟨z, its, n, r, hl, e⟩ := I.lstM hH
  obtain ⟨z2, its2, n2, r2, hl2, e2⟩ := I.lstM hB
  have hsz : its.toArray.size + its2.toArray.size <= sizeLine := by rw [List.size_toArray, List.size_toArray]; lia
  have hlong : ¬ (!its.toArray.isEmpty && Builtin.List.listTooLong (its.toArray.size + its2.toArray.size)) = true := by
    rw [notLongL hsz, Bool.and_false]
    exact Bool.false_ne_true
  refine call_meets F.slot_list_extend ⟨_, e, rfl⟩ F.entry_list_extend (F.args_list_extend_2 _ _)
    (AutoSeq1.list_extend_list_list_0 l its.toArray n b its2.toArray n2 hlong (by rw [List.size_toArray]; lia) (by lia)) ⟨e, e2, ?_⟩
  refine ⟨.non, _, I.lset (its' := its ++ its2) hH e (by simp) (r.append r2) ?_, rfl, q⟩
  rw [List.length_append]
  lia
def rCat : R2 := fun x y H Q => ∃ l b xs zs, x = .ref l /\ y = .ref b /\ H l = some (.lst xs) /\ H b = some (.lst zs) /\ xs.length + zs.length <= sizeLine /\ ∀ p, H p = none -> Q (.ref p) (upd H p (.lst (xs ++ zs)))
theorem op_cat : OpR X (binaryOp .Add) rCat := by
  intro pins s σ H x y v u Q I rx ry h
  obtain ⟨l, b, xs, zs, rfl, rfl, hH, hB, hz, q⟩ := h
  cases rx
  cases ry
  obtain ⟨z, its, n, r, hl, e⟩ := I.lstM hH
  obtain ⟨z2, its2, n2, r2, hl2, e2⟩ := I.lstM hB
  refine PySem.P.add_list e e2 ?_ (by rw [List.size_toArray, List.size_toArray]; lia)
  have ea : its.toArray ++ its2.toArray = (its ++ its2).toArray := by simp
  rw [ea]
  exact ⟨.ref _, _, I.lnew (t' := s.toks) (r.append r2) (by rw [List.length_append]; lia), rfl, q _ I.fresh⟩
end
section
variable {prog : Program} {w : World} {A : Around} {E : Value -> Shared -> Prop} {s : Shared}
set_option maxRecDepth 100000 in
end
section
variable {X : Cx}
end
end L2
namespace Att
open PySem PySem.W PySem.Calls PyProof.Rows
theorem ints_of_wellAll {P : Params} {h : Heap} : ∀ (ns : List Int) (vs : List Value), WellAll P h vs (ns.map WData.int) -> IntsAre vs ns := by
  intro ns
  induction ns with
  | nil =>
    intro vs w
    rw [List.map_nil] at w
    cases w
    exact .nil
  | cons n ns ih =>
    intro vs w
    rw [List.map_cons] at w
    cases w with
    | cons a b =>
      cases a
      exact .cons _ _ (ih _ b)
theorem script_of {l : OpenLaw} {n : Nat} (hn : l.most = some n) {P : Params} {h : Heap} {args : List WData} {vals : List Value}
    (hpre : l.row.toRowW.claim.pre args = true) (hwl : WellAll P h vals args) :
    ∃ a vs ns, vals = [Value.ref a] /\ args = [WData.list (ns.map WData.int)] /\ h.get? a = some { cls := .type "list", data := .seq vs.toArray } /\ IntsAre vs ns /\ ns.length <= n := by
  have hsh : WShape.hasAll [] args [.list .int] = true := (pre_splitW hpre).1
  have hc : l.pre.holds [] { args := args } = true := (pre_splitW hpre).2
  obtain ⟨d, r, rfl, h1, h2⟩ := hasAllW_cons hsh
  obtain rfl := hasAllW_nil h2
  obtain ⟨xs, rfl, h3⟩ := hasW_list h1
  obtain ⟨ns, rfl⟩ := items_int h3
  have hlen : ns.length <= n := by
    unfold OpenLaw.pre at hc
    have h4 : (WTm.not (.lt (.lit (.int (n : Int))) (.len (.arg 0)))).holds [] { args := [.list (ns.map .int)] } = true := by
      have h4 := (holds_andW hc).1
      rw [hn] at h4
      exact h4
    have h5 := condW_of h4 (w_not (w_lt w_lit (w_len_list (w_arg rfl))))
    rw [List.length_map] at h5
    refine Nat.le_of_not_lt fun q => ?_
    have q' : (n : Int) < ((ns.length : Nat) : Int) := by lia
    first
      | (rw [decide_eq_true q'] at h5; exact absurd h5 (by decide))
      | (simp at h5; lia)
  cases hwl with
  | cons w1 w2 =>
    cases w2
    cases w1 with
    | list ho hall => exact ⟨_, _, ns, rfl, rfl, ho, ints_of_wellAll ns _ hall, hlen⟩
theorem post_true (l : OpenLaw) (args : List WData) : l.row.toRowW.claim.post args (.bool true) args = true :=
  postW_of (r := l.row.toRowW) (X := (true == true))
    (show WShape.has [] (.bool true) .bool = true by first | rfl | decide | simp [WShape.has, WShape.arms, WShape.armsAll])
    (show (WTm.eq .res (.lit (.bool true))).value [] { args := args, res := some (.bool true), after := args } = some (.bool (true == true)) from w_eq_bool (w_res rfl) w_lit) rfl
theorem attach_call {l : OpenLaw} {n : Nat} {q : Program} {loose : List Str} {XP : (Str -> Option Value) -> Heap -> Prop} {YP : World -> Heap -> Prop} {d : DefRec}
    (hn : l.most = some n) (hdf : d.params.defaults = [])
    (call : ∀ (w : World) (s₀ s₁ : Shared) (mg mb : Str -> Option Value) (fa : Addr) (o : Obj) (pm cd doc : Value) (a : Addr) (vs : List Value) (ns : List Int),
      Ground q loose [] XP w s₀ mg mb s₁.heap -> YP w s₁.heap ->
      s₁.heap.get? fa = some o -> o.data = .func (docDef d.name d.params d.body d.scope pm cd doc) -> s₁.heap.CodeRec cd d.name -> mg d.name = some (.ref fa) ->
      s₁.heap.get? a = some { cls := .type "list", data := .seq vs.toArray } -> IntsAre vs ns -> ns.length <= n -> s₁.gens = #[] ->
      codeAny (model l.prog w) callerA (.call (.ref fa) ⟨[.ref a], []⟩) (fun r s' => r = .ok (.ret (.bool true)) /\ OldK s₁.heap s'.heap /\ s'.os = s₁.os /\ AllBare s'.gens) s₁) :
    WalkO q loose XP YP l.row.toRowW d [] (fun f vs => PySem.call f vs) := by
  intro w s₀ s₁ mg mb G Y fa o pm cd doc dV kV ho hd hcd hD hmg hg args vals as hpre hlay hrd hwl hlo
  obtain rfl : dV = .none := Dflts.none hD hdf
  obtain rfl : kV = .none := Dflts.noKw hD
  obtain ⟨a, vs, ns, rfl, rfl, hobj, hints, hlen⟩ := script_of hn hpre hwl
  refine enter_call (codeAny_mono (call w s₀ s₁ mg mb fa o pm cd doc a vs ns G Y ho (fd_plain hd) hcd hmg hobj hints hlen hg) fun r s' hq => ?_)
  obtain ⟨rfl, h2, h3, h4⟩ := hq
  exact ⟨.inl ⟨.bool true, .bool true, [], rfl, fun _ => rfl, .bool true, post_true l _, fun _ => ⟨List.Pairwise.nil, fun _ hm => (nomatch hm)⟩⟩, h2, h3, h4⟩
section
variable {prog : Program} {w : World} {A : Around} {E : Value -> Shared -> Prop} {s : Shared} {K : Frag}
end
end Att
namespace L2
open PySem PySem.Spec PyProof.Rows
theorem vals_ints : ∀ {vs : List Value} {ns : List Int}, IntsAre vs ns -> Vals (ns.map V.int) vs
  | _, _, .nil => .nil
  | _, _, .cons n t h => .cons ⟨t, rfl⟩ (vals_ints h)
def Only (H : Hp) : Prop := ∀ b, H b = none \/ ∃ o xs, H b = some (.frz o (.lst xs))
theorem law_call {P : Program} {w : World} {K : PySem.W.Frag} {mg mb : Str -> Option Value} {CX : CXT} {k : Nat} {fa a : Addr} {fd : FuncData} {x : Str} {sp : Sp} {s₁ : Shared} {vs : List Value} {ns : List Int}
    (KX : K.In s₁.heap) (hns : s₁.heap.Ns mainGlobals mg) (hb : s₁.heap.Ns builtinsNs mb) (hbb : ∀ x : Str, x ≠ "__name__" -> mb x = bootBuiltins x) (hlim : s₁.heap.NoLimit) (hg : s₁.gens = #[])
    (ha : s₁.heap.get? a = some { cls := .type "list", data := .seq vs.toArray }) (hi : IntsAre vs ns) (hl : ns.length <= sizeLine) (hr : Room k callerA)
    (F : ∀ base : Heap, K.In base -> base.Ns mainGlobals mg -> FnOk P w K mg base CX k fa fd [x] sp) (hbind : ∀ (s : Shared) (u : Value), BindsTo s fd ⟨[u], []⟩ [(x, u)])
    (hsp : ∀ H : Hp, Only H -> SqL K H a (ns.map V.int) -> sp [.ref a] H (fun v _ => v = .bl true) fun _ _ _ => False)
    (hCX : ∀ H e s', CX [] H s₁ (fun _ _ _ => False) e s' -> False) :
    codeAny (model P w) callerA (.call (.ref fa) ⟨[.ref a], []⟩) (fun r s' => r = .ok (.ret (.bool true)) /\ OldK s₁.heap s'.heap /\ s'.os = s₁.os /\ AllBare s'.gens) s₁ := by
  have rv := vals_ints hi
  have lenV := hi.length
  have core : ∀ H : Hp, Only H -> SqL K H a (ns.map V.int) -> HOk P w H s₁.heap -> (∀ b, H b ≠ none -> b = a) -> (H a ≠ none -> K.lookup a = none) ->
      codeAny (model P w) callerA (.call (.ref fa) ⟨[.ref a], []⟩) (fun r s' => r = .ok (.ret (.bool true)) /\ OldK s₁.heap s'.heap /\ s'.os = s₁.os /\ AllBare s'.gens) s₁ := by
    intro H hO hS hok hA hK
    have base_of : ∀ {b : Addr} {o : Obj}, s₁.heap.get? b = some o -> H b = none -> (hidT s₁.heap H).get? b = some o := fun e n => hidT_get e n
    have noA : ∀ {b : Addr} {o : Obj} {es : Array DictEntry} {ep : Nat}, s₁.heap.get? b = some o -> o.data = .dict es ep -> H b = none := fun {b o es ep} e d => by
      cases q : H b with
      | none => rfl
      | some u =>
        have e' : b = a := hA b (by rw [q]; simp)
        subst e'
        rw [ha] at e; cases e
        have d' : Data.seq vs.toArray _ = Data.dict es ep := d
        cases d'
    have nsK : ∀ {b : Addr} {m : Str -> Option Value}, s₁.heap.Ns b m -> (hidT s₁.heap H).Ns b m := fun {b m} ⟨o, es, ep, e, d, r⟩ => ⟨o, es, ep, base_of e (noA e d), d, r⟩
    have hKb : K.In (hidT s₁.heap H) := fun b o e => base_of (KX b o e) (by
      cases q : H b with
      | none => rfl
      | some u =>
        have e' : b = a := hA b (by rw [q]; simp)
        subst e'
        rw [hK (by rw [q]; simp)] at e; cases e)
    have hM : Mod K mg (hidT s₁.heap H) := ⟨hKb, nsK hns, ⟨mb, nsK hb, hbb⟩, let ⟨mc, h1, h2⟩ := hlim; ⟨mc, nsK h1, h2⟩⟩
    have e0 : Env0 P w K mg (hidT s₁.heap H) callerA [] s₁ H := ⟨rfl, hM, fun b o e => of_hidT e, Nat.le_of_eq (hidT_size _ _), trivial, fun b hb => absurd (show b ∈ ([] : List Addr) from hb) (by simp), hok, .of_eq hg⟩
    refine codeAny_mono ((F _ hKb (nsK hns)).run callerA [] s₁ H ⟨[.ref a], []⟩ [.ref a] [.ref a] _ _ hr e0 (hbind s₁ (.ref a)) (.cons rfl .nil) (hsp H hO hS)) fun r s' h => ?_
    cases r with
    | error e => exact (hCX H e s' h).elim
    | ok fl =>
      cases fl with
      | next => exact False.elim h
      | brk => exact False.elim h
      | cont => exact False.elim h
      | ret u =>
        obtain ⟨v, H', os, bare, un, hok', r', q⟩ := h
        have q' : v = .bl true := q
        subst q'
        obtain rfl : u = Value.bool true := r'
        refine ⟨rfl, OldK.of_keep fun b o e => ?_, os, bare⟩
        cases q : H b with
        | none => exact un.keep b o e q (by intro z; exact absurd (show b ∈ ([] : List Addr) from z) (by simp)) (by simp)
        | some u =>
          rcases hO b with z | ⟨ob, xs, z⟩
          · rw [q] at z; cases z
          · have z2 := un.frzs b ob _ z
            obtain ⟨e1, _⟩ := hok b _ z
            obtain ⟨e2, _⟩ := hok' b _ z2
            rw [e] at e1; cases e1
            exact e2
  cases hk : K.lookup a with
  | some o =>
    have e := KX a o hk
    rw [ha] at e
    cases e
    refine core (fun _ => none) (fun _ => .inl rfl) (.inr ⟨_, vs.toArray, _, hk, rfl, rfl, rfl, by rw [List.size_toArray, lenV]; exact hl, by simpa using rv⟩) (fun b u z => by have z' : (none : Option HO) = some u := z; cases z') (fun b z => absurd rfl z) fun z => absurd rfl z
  | none =>
    refine core (fun b => if b = a then some (.frz { cls := .type "list", data := .seq vs.toArray } (.lst (ns.map V.int))) else none) (fun b => ?_) (.inl (.inr ⟨{ cls := .type "list", data := .seq vs.toArray }, if_pos rfl⟩)) (fun b u z => ?_) (fun b z => ?_) fun _ => hk
    · by_cases hb : b = a
      · exact .inr ⟨_, _, if_pos hb⟩
      · exact .inl (if_neg hb)
    · by_cases hb : b = a
      · have z' := (if_pos hb).symm.trans z
        cases z'
        subst hb
        exact ⟨ha, by rw [List.length_map]; exact hl, vs, _, rv, ha⟩
      · have z' := (if_neg hb).symm.trans z
        cases z'
    · by_cases hb : b = a
      · exact hb
      · exact absurd (if_neg hb) z
abbrev KOf {K : PySem.W.Frag} {h : Heap} (_ : K.In h) : PySem.W.Frag := K
theorem walk_of {l : PySem.W.OpenLaw} {n k : Nat} {q : Program} {loose : List Str} {XP : (Str -> Option Value) -> Heap -> Prop} {YP : World -> Heap -> Prop} {d : DefRec} {K : Params -> PySem.W.Frag} {CX : World -> CXT} {sp : World -> Sp} {x : Str}
    (hn : l.most = some n) (hn2 : n <= sizeLine) (hdf : d.params.defaults = []) (hr : Room k callerA)
    (hY : ∀ (w : World) (h : Heap), YP w h -> (K w.params).In h)
    (F : ∀ (w : World) (mg : Str -> Option Value) (fa : Addr) (h : Heap), (K w.params).In h -> h.Ns mainGlobals mg -> mg d.name = some (.ref fa) ->
      ∃ fd : FuncData, (∀ (s : Shared) (u : Value), BindsTo s fd ⟨[u], []⟩ [(x, u)]) /\
        ∀ base : Heap, (K w.params).In base -> base.Ns mainGlobals mg -> FnOk l.prog w (K w.params) mg base (CX w) k fa fd [x] (sp w))
    (hsp : ∀ (w : World) (H : Hp) (a : Addr) (ns : List Int), ns.length <= n -> Only H -> SqL (K w.params) H a (ns.map V.int) -> sp w [.ref a] H (fun v _ => v = .bl true) fun _ _ _ => False)
    (hCX : ∀ (w : World) (H : Hp) (s : Shared) (e : Value) (s' : Shared), CX w [] H s (fun _ _ _ => False) e s' -> False) :
    PySem.W.WalkO q loose XP YP l.row.toRowW d [] (fun f vs => PySem.call f vs) := by
  refine Att.attach_call hn hdf fun w s₀ s₁ mg mb fa o pm cd doc a vs ns G Y ho hd hcd hmg hobj hints hlen hg => ?_
  have KX := hY w _ Y
  obtain ⟨fd, hb, hF⟩ := F w mg fa _ KX G.T.g hmg
  exact law_call KX G.T.g G.T.b G.T.builtins G.T.nolimit hg hobj hints (Nat.le_trans hlen hn2) hr hF hb (fun H hO hS => hsp w H a ns hlen hO hS) fun H e s' => hCX w H s₁ e s'
end L2
/- THE LAST THEOREM (shape; LID, My.* are yours):
   My.Adr: a structure of the addresses that your layer names (classes, functions); My.Txt K t: a structure (Prop) of the equations over K;
   My.txt_mk : {K} {implicit addresses ..} (e1 : nsIn K mainGlobals "law" = some (some (.ref f))) (e2 : K.lookup f = some ⟨oc, od, .func (fnOf "law" "law" params body scope dV kV doc pm an cdv ct), sl⟩) (e3 : codeIn K cdv "law" = true) .. : ∃ t, My.Txt K t
set_option maxRecDepth 100000 in
set_option maxHeartbeats 0 in
theorem PySem.Challenge.cw_LID_holds : PySem.Challenge.rw_LID.Holds := by
  w_on; o_law; k_head; (case hw => w_witness2)
  k_fill
  refine L2.walk_of (l := PySem.Challenge.rw_LID) (n := 63) (k := 40) (x := "script") (CX := fun w => ..) (sp := fun _ => My.sp_law) rfl (by decide) rfl ⟨rfl, by decide, by decide⟩ (fun w h Y => PySem.W.kIn_of Y) ?F ?S ?C
  case F =>
    intro w mg fa h KX G hmg
    have T : ∃ t, My.Txt (L2.KOf KX) t := by
      dsimp only [L2.KOf]                          -- K must stand as «<heap const> w.params» for k_is
      refine' My.txt_mk ?e1 ?e2 ?e3 ..
      (case e1 => PySem.W.k_is)                    -- in the order: a name -> its address -> its object -> its parts
      (case e2 => PySem.W.k_is)
      ..
    obtain ⟨t, T⟩ := T
    have e0 := hmg.symm.trans (PySem.W.mg_of KX G T.law)
    cases e0                                       -- fa is the law's own address
    exact ⟨_, fun s u => .of_eq rfl, fun base kb nb => My.law_fn T kb nb⟩     -- if «.of_eq rfl» comes too early: refine' ⟨_, ?b, fun base kb nb => My.law_fn T kb nb⟩; exact fun s u => .of_eq rfl
  case S => exact fun w H a ns hl hO hS => ..
  case C => exact ..
(the tactic k_is has no namespace: write k_is) -/
namespace L2
open PySem PySem.Spec PyProof.Rows
def defArgs (s : Stmt) : Arguments := match s with
  | .FunctionDef _ a _ _ _ _ _ _ _ _ => a
  | _ => { posonlyargs := [], args := [], vararg := none, kwonlyargs := [], kw_defaults := [], kwarg := none, defaults := [] }
def defBody (s : Stmt) : List Stmt := match s with
  | .FunctionDef _ _ b _ _ _ _ _ _ _ => b
  | _ => []
def defScope (s : Stmt) : Scope := match s with
  | .FunctionDef _ _ _ _ _ _ sc _ _ _ => sc
  | _ => { kind := .function, names := [], isGenerator := false, isCoroutine := false }
abbrev CX0 : CXT := fun _ _ _ _ _ _ => False
abbrev E0 : XK := fun _ _ _ => False
theorem pass0 {X : Cx} : Passes CX0 X E0 := fun _ _ _ _ _ _ _ h => h.elim
structure Fun (K : PySem.W.Frag) (x qual : Str) (st : Stmt) (f : Addr) (fd : FuncData) : Prop where
  ex : ∃ (oc : Value) (od : Option Addr) (kV doc pm : Value) (an : Option Addr) (cdv ct : Value) (osl : Array (Option Value)),
    fd = PySem.W.fnOf x qual (defArgs st) (defBody st) (defScope st) .none kV doc pm an cdv ct /\ K.lookup f = some ⟨oc, od, .func fd, osl⟩ /\ PySem.W.codeIn K cdv qual = true
  kp : PySem.W.keepIn K (.ref f) = true
section
variable {P : Program} {w : World} {K : PySem.W.Frag} {mg : Str -> Option Value} {base : Heap}
theorem Fun.ok {x qual : Str} {st : Stmt} {f : Addr} {fd : FuncData} {N ps : List Str} {k : Nat} {sp : Sp} (F : Fun K x qual st f fd) (S : FnScope N ps (defScope st)) (len : ∀ vs H Q E, sp vs H Q E -> vs.length = ps.length)
    (hbody : ∀ (cdv : Value) (A : Around) (outer : List Env) (s : Shared) (H : Hp) (vs : List V) (Q : VK) (E : XK), Room k (A.deeper (envOfC qual (defScope st) s.heap.objs.size f cdv)) -> sp vs H Q E ->
      ∃ t, PSs (cxOf CX0 P w K mg base N qual (defScope st) f cdv A outer s H E).nox (defBody st) t /\ t { nx := fun _ H' => Q .non H', rt := Q } (start N vs) H) : FnOk P w K mg base CX0 (k + 1) f fd ps sp := by
  obtain ⟨oc, od, kV, doc, pm, an, cdv, ct, osl, rfl, lk, hcd⟩ := F.ex
  refine fn_of lk hcd S len fun A outer s H vs Q E hr hsp => ?_
  obtain ⟨t, h, q⟩ := hbody cdv A outer s H vs Q E hr hsp
  exact ⟨t, h.nox, q⟩
theorem Fun.binds {x qual : Str} {st : Stmt} {f : Addr} {fd : FuncData} {ps : List Str} (F : Fun K x qual st f fd)
    (h : ∀ (kV doc pm : Value) (an : Option Addr) (cdv ct : Value) (us : List Value), us.length = ps.length -> bindArgs (PySem.W.fnOf x qual (defArgs st) (defBody st) (defScope st) .none kV doc pm an cdv ct) ⟨us, []⟩ = pure (ps.zip us)) : Binds K fd ps [] := by
  obtain ⟨oc, od, kV, doc, pm, an, cdv, ct, osl, rfl, lk, hcd⟩ := F.ex
  exact .all (h kV doc pm an cdv ct)
theorem fun_mk {x qual : Str} {st : Stmt} {f : Addr} {oc : Value} {od an : Option Addr} {osl : Array (Option Value)} {kV doc pm cdv ct : Value} (l : K.lookup f = some ⟨oc, od, .func (PySem.W.fnOf x qual (defArgs st) (defBody st) (defScope st) .none kV doc pm an cdv ct), osl⟩)
    (c : PySem.W.codeIn K cdv qual = true) (k : PySem.W.keepIn K (.ref f) = true) : Fun K x qual st f (PySem.W.fnOf x qual (defArgs st) (defBody st) (defScope st) .none kV doc pm an cdv ct) := ⟨⟨oc, od, kV, doc, pm, an, cdv, ct, osl, rfl, l, c⟩, k⟩
end
theorem hu_of {A : Around} {k : Nat} (hr : Room k A) : A.units + 1 < cLine := Nat.lt_of_le_of_lt (Nat.add_le_add_left (by decide : 1 <= 64) _) hr.units
section
variable {X : Cx}
theorem pv (i : Nat) {x : Str} {pos : Pos} (hN : X.N[i]? = some x := by rfl) (hv : Vis X.env.scope x := by first | exact Or.inl rfl | exact Or.inr (Or.inl rfl) | exact Or.inr (Or.inr rfl)) (hd : (x == ("__debug__" : Str)) = false := by decide)
    (hcd : (x == ("__classdict__" : Str)) = false := by decide) : PE X (.Name x pos) (tVar i) := pe_var hN hv hd hcd
end
theorem iteF {A B : Prop} (h : B) : if false = true then A else B := by
  rw [if_neg Bool.false_ne_true]
  exact h
theorem iteT {A B : Prop} (h : A) : if true = true then A else B := by
  rw [if_pos rfl]
  exact h
theorem ite2 {c A B : Prop} [Decidable c] (h1 : c -> A) (h2 : ¬ c -> B) : if c then A else B := by
  by_cases h : c
  · rw [if_pos h]
    exact h1 h
  · rw [if_neg h]
    exact h2 h
def Same (H H' : Hp) : Prop := ∀ b o, H b = some o -> H' b = some o
theorem Same.refl (H : Hp) : Same H H := fun _ _ h => h
theorem Same.trans {H H1 H2 : Hp} (a : Same H H1) (b : Same H1 H2) : Same H H2 := fun c o h => b c o (a c o h)
theorem Same.seq {K : PySem.W.Frag} {H H' : Hp} {a : Addr} {xs : List V} (e : Same H H') (h : SqL K H a xs) : SqL K H' a xs := by
  rcases h with (h | ⟨o, h⟩) | h
  · exact .inl (.inl (e _ _ h))
  · exact .inl (.inr ⟨o, e _ _ h⟩)
  · exact .inr h
def PIfs (X : Cx) (ifs : List Expr) (t : TT) : Prop :=
  ∀ (pins : List (Addr × Obj)) (s : Shared) (σ : St) (H : Hp) (Q : Bool -> Hp -> Prop), Inv X pins σ H s -> t σ H Q ->
    wpAny (model X.prog X.w) X.A (forIn ifs true fun c r => if r = true then do
      let ok <- isTrue c X.env (eval c X.env)
      pure (ForInStep.yield ok) else pure (ForInStep.yield r)) (TP X pins σ Q) X.xe s
def tYes : TT := fun _ H Q => Q true H
theorem pifs_nil {X : Cx} : PIfs X [] tYes := fun _ _ _ H _ I h => wpAny_tests_nil ⟨H, I, h⟩
theorem pifs_one {X : Cx} {c : Expr} {t : TT} (h : PT X c t) : PIfs X [c] t := fun pins s σ H Q I hw => wpAny_tests_one (h pins s σ H Q I hw)
def clOf (env : Env) : List (Str × NameKind) -> List (Str × Addr) -> List (Str × Addr)
  | [], cs => cs
  | (n, k) :: r, cs => clOf env r (if (k == NameKind.free) = true then (n, (env.cells.lookup n).getD 0) :: cs else cs)
theorem clOf_loop {env : Env} : ∀ (names : List (Str × NameKind)) (cs : List (Str × Addr)), (∀ x ∈ names, x.2 = .free -> ∃ c, env.cells.lookup x.1 = some c) ->
    (forIn names cs fun (x : Str × NameKind) (r : List (Str × Addr)) => (if (x.2 == NameKind.free) = true then do
      let a <- cellOf env x.1
      pure (ForInStep.yield ((x.1, a) :: r)) else pure (ForInStep.yield r) : Sem (ForInStep (List (Str × Addr))))) = pure (clOf env names cs)
  | [], cs, _ => rfl
  | (n, k) :: r, cs, h => by
    rw [List.forIn_cons]
    by_cases hk : (k == NameKind.free) = true
    · obtain ⟨c, hc⟩ := h (n, k) List.mem_cons_self (by simpa using hk)
      have hc' : env.cells.lookup n = some c := hc
      have e1 : cellOf env n = pure c := by unfold cellOf; rw [hc']
      simp only [hk, if_true, e1, pure_bind]
      rw [clOf_loop r _ fun x hx => h x (List.mem_cons_of_mem _ hx)]
      simp [clOf, hk, hc']
    · simp only [hk, pure_bind]
      rw [if_neg (by simp), pure_bind]
      dsimp only
      rw [clOf_loop r _ fun x hx => h x (List.mem_cons_of_mem _ hx)]
      simp [clOf, hk]
theorem closure_is {scope : Scope} {env : Env} (h : ∀ x ∈ scope.names, x.2 = .free -> ∃ c, env.cells.lookup x.1 = some c) : closureFor scope env = pure (clOf env scope.names []) := by
  have e := clOf_loop scope.names [] h
  simp only [closureFor]
  first
    | (rw [e]; rfl)
    | (refine Eq.trans (congrArg (fun t => t >>= _) e) ?_; rfl)
    | (simp only [e]; rfl)
theorem clOf_get {env : Env} {x : Str} {c : Addr} : ∀ (names : List (Str × NameKind)) (cs : List (Str × Addr)), (∀ y ∈ names, y.2 = .free -> ∃ d, env.cells.lookup y.1 = some d) ->
    (clOf env names cs).lookup x = some c -> cs.lookup x = some c \/ env.cells.lookup x = some c
  | [], cs, _, e => .inl e
  | (n, k) :: r, cs, h, e => by
    have e' : (clOf env r (if (k == NameKind.free) = true then (n, (env.cells.lookup n).getD 0) :: cs else cs)).lookup x = some c := e
    rcases clOf_get r _ (fun y hy => h y (List.mem_cons_of_mem _ hy)) e' with q | q
    · by_cases hk : (k == NameKind.free) = true
      · rw [if_pos hk] at q
        obtain ⟨d, hd⟩ := h (n, k) List.mem_cons_self (by simpa using hk)
        have hd' : env.cells.lookup n = some d := hd
        rw [List.lookup_cons] at q
        by_cases hx : (x == n) = true
        · rw [hx] at q
          have ex : x = n := by simpa using hx
          subst ex
          rw [hd'] at q
          simp at q
          exact .inr (by rw [hd', q])
        · simp only [hx] at q
          exact .inl q
      · rw [if_neg hk] at q
        exact .inl q
    · exact .inr q
theorem clOf_keep {env : Env} {x : Str} : ∀ (names : List (Str × NameKind)) (cs : List (Str × Addr)), (∃ c, cs.lookup x = some c) -> ∃ c, (clOf env names cs).lookup x = some c
  | [], cs, h => h
  | (n, k) :: r, cs, h => by
    refine clOf_keep r _ ?_
    by_cases hk : (k == NameKind.free) = true
    · rw [if_pos hk, List.lookup_cons]
      cases hx : x == n with
      | true => exact ⟨_, rfl⟩
      | false => exact h
    · rw [if_neg hk]; exact h
theorem clOf_has {env : Env} {x : Str} : ∀ (names : List (Str × NameKind)) (cs : List (Str × Addr)), (x, NameKind.free) ∈ names -> ∃ c, (clOf env names cs).lookup x = some c
  | (n, k) :: r, cs, h => by
    show ∃ c, (clOf env r (if (k == NameKind.free) = true then (n, (env.cells.lookup n).getD 0) :: cs else cs)).lookup x = some c
    rcases List.mem_cons.mp h with e | e
    · cases e
      refine clOf_keep r _ ⟨(env.cells.lookup x).getD 0, ?_⟩
      rw [if_pos (by rfl), List.lookup_cons]
      simp
    · exact clOf_has r _ e
def relN (env : Env) (names : List (Str × NameKind)) : List (Str × NameKind) :=
  names.map fun (n, k) => if (k == NameKind.free && env.scope.kind == .function && env.kindOf n == some .cell) then (n, NameKind.cell) else (n, k)
theorem relN_get {env : Env} {x : Str} {k' : NameKind} : ∀ (names : List (Str × NameKind)), (relN env names).lookup x = some k' -> ∃ k, names.lookup x = some k /\ (k' = k \/ (k = .free /\ k' = .cell))
  | [], h => by simp [relN] at h
  | (n, k) :: r, h => by
    have ih := relN_get (env := env) (x := x) (k' := k') r
    have h' : ((if (k == NameKind.free && env.scope.kind == .function && env.kindOf n == some .cell) = true then (n, NameKind.cell) else (n, k)) :: relN env r).lookup x = some k' := h
    by_cases hc : (k == NameKind.free && env.scope.kind == .function && env.kindOf n == some .cell) = true
    · rw [if_pos hc, List.lookup_cons] at h'
      rw [List.lookup_cons]
      cases hx : x == n with
      | true =>
        rw [hx] at h'
        have h2 : NameKind.cell = k' := Option.some.inj h'
        have hk : k = .free := by
          cases k <;> first | rfl | (simp at hc)
        exact ⟨k, rfl, .inr ⟨hk, h2.symm⟩⟩
      | false =>
        rw [hx] at h'
        exact ih h'
    · rw [if_neg hc, List.lookup_cons] at h'
      rw [List.lookup_cons]
      cases hx : x == n with
      | true =>
        rw [hx] at h'
        exact ⟨k, rfl, .inl (Option.some.inj h').symm⟩
      | false =>
        rw [hx] at h'
        exact ih h'
def cxComp (X : Cx) (scope : Scope) (N' : List Str) (fp : List Addr) (C : Addr) (s : Shared) (H : Hp) : Cx where
  prog := X.prog
  w := X.w
  K := X.K
  mg := X.mg
  base := X.base
  A := X.A
  N := N'
  s₀ := s
  H₀ := H
  env := compEnvC scope (clOf X.env scope.names []) C X.env
  outer := X.stack
  stack := X.stack
  ex := fp
  fn := fun _ => false
  calm := true
  pn := X.pn
  xe := fun _ _ => False
def stComp (fr : List (Option Nat)) (σ : St) : St := fr.map fun o => o.bind fun j => (σ[j]?).join
def frOk (N : List Str) (kinds names : List (Str × NameKind)) (N' : List Str) (fr : List (Option Nat)) : Bool :=
  (N'.length == fr.length) && (N'.zip fr).all fun p => match p.2 with
    | none => true
    | some j => N[j]? == some p.1 && names.lookup p.1 == some NameKind.free && (kinds.lookup p.1 == some NameKind.cell || kinds.lookup p.1 == some NameKind.free)
theorem frOk_at {N : List Str} {kinds names : List (Str × NameKind)} {N' : List Str} {fr : List (Option Nat)} (h : frOk N kinds names N' fr = true) {i j : Nat} {x : Str} (h1 : N'[i]? = some x) (h2 : fr[i]? = some (some j)) :
    N[j]? = some x /\ names.lookup x = some NameKind.free /\ (kinds.lookup x = some NameKind.cell \/ kinds.lookup x = some NameKind.free) := by
  unfold frOk at h
  rw [Bool.and_eq_true, List.all_eq_true] at h
  have hm : (x, some j) ∈ N'.zip fr := by
    refine List.mem_of_getElem? (i := i) ?_
    rw [List.getElem?_zip_eq_some]
    exact ⟨h1, h2⟩
  have q := h.2 _ hm
  simp only [Bool.and_eq_true, Bool.or_eq_true, beq_iff_eq] at q
  exact ⟨q.1.1, q.1.2, q.2⟩
structure CompOk (X : Cx) (scope : Scope) (N' : List Str) (fr : List (Option Nat)) : Prop where
  kind : scope.kind = .function
  cells : ∀ y ∈ scope.names, y.2 ≠ .cell
  names : ∀ y ∈ scope.names, y.2 = .local -> scope.names.lookup y.1 = some .local
  frees : ∀ y ∈ scope.names, y.2 = .free -> X.env.kindOf y.1 = some .cell \/ X.env.kindOf y.1 = some .free
  fr : frOk X.N X.env.scope.names scope.names N' fr = true
section
variable {X : Cx} {scope : Scope} {N' : List Str} {fr : List (Option Nat)} {pins : List (Addr × Obj)} {σ : St} {H : Hp} {s : Shared} {fp : List Addr}
theorem CompOk.has (c : CompOk X scope N' fr) (ok : X.Ok) : ∀ y ∈ scope.names, y.2 = .free -> ∃ d, X.env.cells.lookup y.1 = some d := fun y hy h => ok.has _ (c.frees y hy h)
theorem inv_comp {C : Addr} {h' : Heap} {tk : Nat} {m : Str -> Option Value} (c : CompOk X scope N' fr) (hc : X.calm = true) (I : Inv X pins σ H s) (hf : ∀ b ∈ fp, FpOk X pins H b) (hlt : ∀ b ∈ fp, b < s.heap.objs.size)
    (old : ∀ b o, s.heap.get? b = some o -> h'.get? b = some o) (hC : s.heap.objs.size <= C) (hn : h'.Ns C m) :
    Inv (cxComp X scope N' fp C s H) pins (stComp fr σ) H { s with heap := h', toks := tk } := by
  have get : ∀ x d, (clOf X.env scope.names []).lookup x = some d -> X.env.cells.lookup x = some d := fun x d e => by
    rcases clOf_get scope.names [] (c.has I.ok) e with q | q
    · simp at q
    · exact q
  have old2 : ∀ b, b < s.heap.objs.size -> b ≠ C := fun b hb => Nat.ne_of_lt (Nat.lt_of_lt_of_le hb hC)
  have hl : (stComp fr σ).length = N'.length := by
    have q := c.fr
    unfold frOk at q
    rw [Bool.and_eq_true] at q
    have q1 : N'.length = fr.length := by simpa using q.1
    rw [stComp, List.length_map, q1]
  refine ⟨⟨I.ok.mod, c.kind, I.ok.glob, I.ok.blt, hC, ?_, ?_, (fun _ _ z => nomatch z), fun _ => I.ok.hd hc, I.ok.frames, .inl rfl, ?_, I.bs, Nat.le_trans I.ok.bsz I.sz, ?_, ?_, I.stack, I.stkFree⟩, rfl, I.bare, Un.kept old, ⟨m, hn, ?_⟩, ?_, I.hok.fresh hC, ?_, ?_, I.hok.kept old, hl⟩
  · exact fun x y d e1 e2 => I.ok.inj x y d (get x d e1) (get y d e2)
  · intro x hx
    have hx' : (relN X.env scope.names).lookup x = some .cell \/ (relN X.env scope.names).lookup x = some .free := hx
    have fin : scope.names.lookup x = some .free -> ∃ d, (clOf X.env scope.names []).lookup x = some d := fun e => clOf_has scope.names [] (PySem.mem_of_lookup e)
    rcases hx' with q | q
    · obtain ⟨k, e, z⟩ := relN_get scope.names q
      rcases z with z | ⟨z, _⟩
      · subst z
        exact absurd rfl (c.cells _ (PySem.mem_of_lookup e))
      · subst z
        exact fin e
    · obtain ⟨k, e, z⟩ := relN_get scope.names q
      rcases z with z | ⟨_, z⟩
      · subst z
        exact fin e
      · cases z
  · exact fun b hb => ⟨old2 b (hlt b hb), fun x d e => (hf b hb).2.2.2.2.1 x d (get x d e)⟩
  · intro b o e hb
    rcases (hf b hb).2.2.2.1 with z | z
    · exact I.ok.noex b o e z
    · exact absurd (Nat.lt_of_lt_of_le (Heap.lt_size e) (Nat.le_trans I.ok.bsz z)) (Nat.lt_irrefl _)
  · intro b hb hs
    rcases List.mem_cons.mp (I.stkSub b hs) with z | z
    · exact (hf b hb).2.1 z
    · exact (hf b hb).2.2.1 z
  · intro i x v e1 e2 e3
    have e2' : (fr.map fun o => o.bind fun j => (σ[j]?).join)[i]? = some (some v) := e2
    rw [List.getElem?_map] at e2'
    cases q : fr[i]? with
    | none => rw [q] at e2'; cases e2'
    | some o =>
      rw [q] at e2'
      have e3' : (o.bind fun j => (σ[j]?).join) = some v := Option.some.inj e2'
      cases o with
      | none => cases e3'
      | some j =>
        have e4 : (σ[j]?).join = some v := e3'
        have e5 : σ[j]? = some (some v) := by
          cases z : σ[j]? with
          | none => rw [z] at e4; cases e4
          | some w => rw [z] at e4; exact congrArg some e4
        obtain ⟨f1, f2, f3⟩ := frOk_at c.fr e1 q
        obtain ⟨m0, hn0, hl0⟩ := I.loc
        have vis : Vis X.env.scope x := f3.elim (fun z => .inr (.inl z)) fun z => .inr (.inr z)
        obtain ⟨u, r, look⟩ := hl0 j x v f1 e5 vis
        refine ⟨u, r, ?_⟩
        rcases look with ⟨k, _⟩ | ⟨k, d, hd, hcell⟩
        · have k' : X.env.scope.names.lookup x = some .local := k
          rcases f3 with z | z <;> (rw [k'] at z; cases z)
        · refine .inr ⟨?_, d, ?_, ?_⟩
          · have e3'' : (relN X.env scope.names).lookup x = some .local \/ (relN X.env scope.names).lookup x = some .cell \/ (relN X.env scope.names).lookup x = some .free := e3
            rcases e3'' with z | z | z
            · obtain ⟨k2, e, z2⟩ := relN_get scope.names z
              rw [f2] at e
              cases e
              rcases z2 with z2 | ⟨_, z2⟩ <;> cases z2
            · exact .inl z
            · exact .inr z
          · obtain ⟨d', e⟩ := clOf_has (env := X.env) scope.names [] (PySem.mem_of_lookup f2)
            have := get x d' e
            rw [hd] at this
            cases this
            exact e
          · obtain ⟨ob, h1, h2⟩ := hcell
            exact ⟨ob, old _ _ h1, h2⟩
  · intro x d e
    obtain ⟨v, ob, h1, h2⟩ := I.cell x d (get x d e)
    exact ⟨v, ob, old _ _ h1, h2⟩
  · exact fun x d e => I.freeC x d (get x d e)
  · intro p hp
    obtain ⟨e, n, ne, nf, dd⟩ := I.pin p hp
    refine ⟨old _ _ e, n, old2 _ (Heap.lt_size e), fun hs => ?_, dd⟩
    rcases List.mem_cons.mp (I.stkSub p.1 hs) with z | z
    · exact ne z
    · exact nf z
end
section
variable {prog : Program} {w : World} {A : Around} {R : Result -> Shared -> Prop} {s : Shared}
theorem comp_loop {elt tg iter : Expr} {ifs : List Expr} {scope : Scope} {pos : Pos} {it acc : Value} {env : Env} (J : Nat -> Shared -> Prop)
    (turn : ∀ n s, J n s -> wpAny (model prog w) A (pyNext it) (fun r s1 => match r with
      | none => R (.ok .next) s1
      | some v => wpAny (model prog w) A (letOwnedTupleGo tg it v) (fun _ s2 => wpAny (model prog w) A (assign tg env v) (fun _ s3 =>
          wpAny (model prog w) A (forIn ifs true fun c r => if r = true then do
            let ok <- isTrue c env (eval c env)
            pure (ForInStep.yield ok) else pure (ForInStep.yield r)) (fun ok s4 =>
              if ok = true then wpAny (model prog w) A (eval elt env) (fun x s5 =>
                wpAny (model prog w) A (call (.builtin "list.append") [acc, x]) (fun _ s6 => ∃ m, m < n /\ J m s6) (fun _ _ => False) s5) (fun _ _ => False) s4
              else ∃ m, m < n /\ J m s4) (fun _ _ => False) s3) (fun _ _ => False) s2) (fun _ _ => False) s1) (fun _ _ => False) s)
    (n : Nat) (h : J n s) : codeAny (model prog w) A (.compLoop (.ListComp elt [⟨tg, iter, ifs, 0⟩] scope pos) 0 it acc env) R s := by
  refine codeAny_loop rfl J (fun k s1 hJ => ?_) n h
  show wpAny _ A ((compTurn (.ListComp elt [⟨tg, iter, ifs, 0⟩] scope pos) 0 it acc env).onRaise (fun y => do noteFrame y env; theTreesLotGoes y)) _ _ s1
  refine wpAny_noted (wpAny_mono (E := fun _ _ => False) ?_ (fun _ _ q => q) fun _ _ z => z.elim)
  rw [compTurn_list]
  refine wpAny_bind (wpAny_standAt (wpAny_bind (thn (turn k s1 hJ) fun r s2 h2 => ?_)))
  cases r with
  | none => exact wpAny_pure h2
  | some v =>
    refine wpAny_bind (thn h2 fun _ s3 h3 => wpAny_bind (thn h3 fun _ s4 h4 => wpAny_bind (thn h4 fun ok s5 h5 => ?_)))
    cases ok with
    | false => exact wpAny_pure ⟨rfl, h5⟩
    | true =>
      refine wpAny_bind (wpAny_bind (thn h5 fun x s6 h6 => wpAny_bind (thn h6 fun _ s7 h7 => ?_)))
      exact wpAny_pure (wpAny_pure ⟨rfl, h7⟩)
end
theorem HOk.track {P : Program} {w : World} {H : Hp} {h : Heap} {a : Addr} {o : HO} (ok : HOk P w H h) (hn : H a = none) (new : ObjOk P w (upd H a o) h a o) : HOk P w (upd H a o) h := fun b u q => by
  by_cases hb : b = a
  · subst hb
    rw [upd_same] at q
    cases q
    exact new
  · rw [upd_ne hb] at q
    exact (ok b u q).stay (fun _ _ _ r => r) (fun c r => by rw [upd_ne (ne_of_none r hn)]; exact r) fun c xs r => by rw [upd_ne (ne_of_none r hn)]; exact r
def CompW (J : It) (g : TG) (tt : TT) (te : TE) (fin : List V -> Hp -> Prop) (W : Nat -> Nat -> List V -> St -> Hp -> Prop) : Prop :=
  ∀ i m ys σ H, W i m ys σ H -> (J.stop i H /\ ys.length <= sizeLine /\ fin ys H) \/ (J.go i H /\ ys.length < sizeLine /\ ∀ x H', J.yld i H x H' -> g x σ H' fun σ2 H2 => tt σ2 H2 fun b H3 =>
    if b = true then te σ2 H3 fun y H4 => ∃ m', m' < m /\ W (i + 1) m' (ys ++ [y]) σ2 H4 else ∃ m', m' < m /\ W (i + 1) m' ys σ2 H3)
section
variable {X : Cx} {scope : Scope} {N' : List Str} {fr : List (Option Nat)} {pins : List (Addr × Obj)} {σ : St} {H : Hp} {s : Shared} {fp : List Addr} {it : Addr} {tn : Nat -> Heap -> Prop} {J : It}
  {elt tg iter : Expr} {ifs : List Expr} {g : TG} {tt : TT} {te : TE} {pos : Pos} {fin : List V -> Hp -> Prop} {W : Nat -> Nat -> List V -> St -> Hp -> Prop} {RR : Value -> Addr -> Result -> Shared -> Prop} {E : Value -> Shared -> Prop}
theorem comp_block (c : CompOk X scope N' fr) (hc : X.calm = true) (I : Inv X pins σ H s) (T : Turn X.prog X.w X.K tg J fp it tn) (st : tn 0 s.heap) (hf : ∀ b ∈ fp, FpOk X pins H b)
    (hg : ∀ fp C s H, PG (cxComp X scope N' fp C s H) tg g) (ht : ∀ fp C s H, PIfs (cxComp X scope N' fp C s H) ifs tt) (he : ∀ fp C s H, PE (cxComp X scope N' fp C s H) elt te)
    (hW : CompW J g tt te fin W) (h0 : ∃ m, W 0 m [] (stComp fr σ) H)
    (hRR : ∀ D C ys H' s', Inv X pins σ (upd H' D (.lst ys)) s' -> (∃ m, s'.heap.Ns C m) -> FpOk X pins (upd H' D (.lst ys)) C -> H' D = none -> fin ys H' -> RR (.ref D) C (.ok .next) s') :
    wpAny (model X.prog X.w) X.A (newList []) (fun acc s3 => wpAny (model X.prog X.w) X.A (newFunctionEnv scope X.env.globals (clOf X.env scope.names []) [] X.env.qual none .none (some X.env)) (fun cenv s4 =>
      codeAny (model X.prog X.w) X.A (.compStart (.ListComp elt [⟨tg, iter, ifs, 0⟩] scope pos) 0 (.ref it) acc { cenv with scope := relabel scope X.env }) (RR acc cenv.locals) s4) E s3) E s := by
  refine wpAny_newObj_type (wpAny_newFunctionEnv c.cells (by intro y hy; simp at hy) (fun h1 hns hsb => ?_) c.kind)
  dsimp only at hns hsb ⊢
  generalize hH2 : s.heap.push { cls := .type "list", dict := none, data := .seq ([] : List Value).toArray } = H2 at hns hsb ⊢
  have hD0 : s.heap.objs.size < H2.objs.size := by rw [<- hH2, Heap.size_push]; exact Nat.lt_succ_self _
  generalize hDD : s.heap.objs.size = D at hD0 ⊢
  generalize hCC : H2.objs.size = C at hns hsb hD0 ⊢
  have up : ∀ b o, s.heap.get? b = some o -> h1.get? b = some o := fun b o e => hsb.extBut b o (by
    have := Heap.lt_size e
    rw [hDD] at this
    exact Nat.ne_of_lt (Nat.lt_trans this hD0)) (Heap.get?_push_of_some _ (by rw [<- hH2]; exact Heap.get?_push_of_some _ e))
  have accD : h1.get? D = some { cls := .type "list", dict := none, data := .seq ([] : List Value).toArray } := hsb.extBut _ _ (Nat.ne_of_lt hD0) (Heap.get?_push_of_some _ (by rw [<- hH2, <- hDD]; exact Heap.get?_push_size _ rfl))
  have hlt : ∀ b ∈ fp, b < s.heap.objs.size := fun b hb => by
    obtain ⟨o, e, _⟩ := T.obj 0 _ st b hb
    exact Heap.lt_size e
  have hle : s.heap.objs.size <= C := by rw [hDD]; exact Nat.le_of_lt hD0
  generalize hX' : cxComp X scope N' fp C s H = X'
  have I1 : Inv X' pins (stComp fr σ) H { s with heap := h1, toks := s.toks + ([] : List (Str × Value)).length } := by
    subst hX'
    exact inv_comp c hc I hf hlt up hle hns
  have st1 : tn 0 h1 := T.keep _ _ _ st fun b hb o e => up b o e
  have pm : X'.prog = X.prog := by subst hX'; rfl
  have wm : X'.w = X.w := by subst hX'; rfl
  have km : X'.K = X.K := by subst hX'; rfl
  have cm : X'.calm = true := by subst hX'; rfl
  have am : X'.A = X.A := by subst hX'; rfl
  have xm : X'.xe = fun _ _ => False := by subst hX'; rfl
  have lm : X'.env.locals = C := by subst hX'; rfl
  have szm : X'.s₀.heap.objs.size = s.heap.objs.size := by subst hX'; rfl
  have nm : X'.pn = X.pn := by subst hX'; rfl
  have hg' := hg fp C s H
  have ht' := ht fp C s H
  have he' := he fp C s H
  have em : X'.env = compEnvC scope (clOf X.env scope.names []) C X.env := by subst hX'; rfl
  have fsm : X'.fs = frs X.stack := by subst hX'; rfl
  have exm : X'.ex = fp := by subst hX'; rfl
  rw [hX'] at hg' ht' he'
  have ageP : ∀ p ∈ X.pn ++ pins, p.1 < D := fun p hp => by rw [<- hDD]; exact Heap.lt_size (I.pin p hp).1
  have ageC : ∀ x d, X'.env.cells.lookup x = some d -> d < D := fun x d e => by
    rw [em] at e
    rcases clOf_get scope.names [] (c.has I.ok) e with q | q
    · simp at q
    · obtain ⟨v, z⟩ := I.cell x d q
      rw [<- hDD]
      exact z.lt
  have cellF : ∀ x d, X'.env.cells.lookup x = some d -> X.env.cells.lookup x = some d := fun x d e => by
    rw [em] at e
    rcases clOf_get scope.names [] (c.has I.ok) e with q | q
    · simp at q
    · exact q
  have fps : ∀ {H' : Hp} {oD : Obj}, (∀ b ∈ fp, H' b = none) -> ∀ b ∈ fp, FpOk X' (pins ++ [(D, oD)]) H' b := fun {H' oD} hn b hb => by
    obtain ⟨_, f1, f2, f3, f4, f5⟩ := hf b hb
    have hbD : b < D := by rw [<- hDD]; exact hlt b hb
    refine ⟨hn b hb, ?_, ?_, .inl (by rw [exm]; exact hb), fun x d e => f4 x d (cellF x d e), fun p hp => ?_⟩
    · rw [lm]; exact Nat.ne_of_lt (Nat.lt_trans hbD hD0)
    · rw [fsm]
      intro hs
      rcases List.mem_cons.mp (I.stkSub b hs) with z | z
      · exact f1 z
      · exact f2 z
    · rw [nm, <- List.append_assoc] at hp
      rcases List.mem_append.mp hp with z | z
      · exact f5 p z
      · rw [List.mem_singleton.mp z]
        exact Nat.ne_of_gt hbD
  have pinD : ∀ {σ' : St} {H' : Hp} {s' : Shared} {its : List Value} {k : Nat}, Inv X' pins σ' H' s' -> s'.heap.get? D = some { cls := .type "list", data := .seq its.toArray k } -> H' D = none ->
      Inv X' (pins ++ [(D, { cls := .type "list", data := .seq its.toArray k })]) σ' H' s' := fun {σ' H' s' its k} J0 e n => J0.pins_of fun p hp => by
    rcases List.mem_append.mp hp with z | z
    · exact J0.pin p (List.mem_append_right _ z)
    · rw [List.mem_singleton.mp z]
      refine ⟨e, n, ?_, ?_, fun v q => by cases q⟩
      · show D ≠ X'.env.locals
        rw [lm]
        exact Nat.ne_of_lt hD0
      · rw [fsm]
        intro hs
        have hb := I.stkSub D hs
        rcases List.mem_cons.mp hb with z | z
        · have := I.lt
          rw [<- z, hDD] at this
          exact Nat.lt_irrefl _ this
        · exact I.nofs (Nat.le_of_eq hDD) z
  have loop : ∀ s0 : Shared, s0 = { s with heap := h1, toks := s.toks + ([] : List (Str × Value)).length } ->
      codeAny (model X.prog X.w) X.A (.compLoop (.ListComp elt [⟨tg, iter, ifs, 0⟩] scope pos) 0 (.ref it) (.ref D) X'.env) (RR (.ref D) C) s0 := by
    rintro s0 rfl
    obtain ⟨m0, w0⟩ := h0
    refine comp_loop (fun n s' => ∃ i ys σ' H' its k, Inv X' pins σ' H' s' /\ tn i s'.heap /\ (∀ b ∈ fp, H' b = none) /\ s'.heap.get? D = some { cls := .type "list", data := .seq (its : List Value).toArray k } /\ H' D = none /\ Vals ys its /\ W i n ys σ' H')
      ?_ m0 ⟨0, [], stComp fr σ, H, [], 0, I1, st1, fun b hb => (hf b hb).1, accD, I.hok.fresh (by rw [hDD]; exact Nat.le_refl _), .nil, w0⟩
    rintro n s1 ⟨i, ys, σ1, H1, its, k, J1, t1, n1, d1, nD1, v1, w1⟩
    have J1' := pinD J1 d1 nD1
    rcases hW i n ys σ1 H1 w1 with ⟨stop, hlen, fi⟩ | ⟨go, hlen, step⟩
    · have a1 := T.done X' pm wm km cm i _ s1 σ1 H1 (fun _ _ => False) J1' (fps n1) t1 stop
      rw [am] at a1
      refine thn a1 fun r s2 ⟨hr, J2⟩ => ?_
      subst hr
      obtain ⟨d2, nD2, _⟩ := J2.pin (D, _) (List.mem_append_right _ (List.mem_append_right _ List.mem_cons_self))
      have u2 : Un (frs X.stack) fp H H1 s.heap s2.heap := by
        have := J2.base
        subst hX'
        exact this
      have hok2 : HOk X.prog X.w (upd H1 D (.lst ys)) s2.heap := by
        have h2 := J2.hok
        rw [pm, wm] at h2
        exact h2.track nD1 ⟨hlen, its, k, v1, d2⟩
      have J3 : Inv X pins σ (upd H1 D (.lst ys)) s2 := by
        refine I.call' (ch := fp) (by have := J2.os; subst hX'; exact this) ⟨fun b o e n hb hx => u2.keep b o e n hb hx, fun b o e n hb hx => u2.slot b o e n hb hx, fun b o e n hx => ?_, fun b o e hx => u2.there b o e hx, fun b xs e => ?_, fun b o u e => ?_, fun b ps e => ?_⟩ hok2 J2.bare fun b hb => ?_
        · have ne : b ≠ D := Nat.ne_of_lt (by rw [<- hDD]; exact Heap.lt_size e)
          rw [upd_ne ne]
          exact u2.free b o e n hx
        · have q := u2.tups b xs e
          rw [upd_ne (ne_of_none q nD1)]
          exact q
        · have q := u2.frzs b o u e
          rw [upd_ne (ne_of_none q nD1)]
          exact q
        · obtain ⟨more, q⟩ := u2.tbls b ps e
          exact ⟨more, by rw [upd_ne (ne_of_none q nD1)]; exact q⟩
        · obtain ⟨_, f1, f2, f3, f4, f5⟩ := hf b hb
          exact ⟨f3, f1, f4, f5⟩
      have nC : (upd H1 D (.lst ys)) C = none := by
        rw [upd_ne (Nat.ne_of_gt hD0)]
        have := J2.free
        rw [lm] at this
        exact this
      refine hRR D C ys H1 s2 J3 ?_ (I.fpOk hle nC) nD1 fi
      obtain ⟨m, hm, _⟩ := J2.loc
      rw [lm] at hm
      exact ⟨m, hm⟩
    · have a1 := T.item X' pm wm km cm i _ s1 σ1 H1 (fun _ _ => False) J1' (fps n1) t1 go
      rw [am] at a1
      refine thn a1 fun r s2 ⟨u, hr, h2⟩ => ?_
      subst hr
      refine thn h2 fun _ s3 ⟨x, H3, J3, r3, y3, t3, n3⟩ => ?_
      have J3' := J3.pinned (fps n3) (T.obj _ _ t3)
      have a3 := hg' _ s3 σ1 H3 x u _ J3' r3 (step x H3 y3)
      rw [pm, wm, am, xm] at a3
      refine thn a3 fun _ s4 ⟨σ4, H4, J4, q4⟩ => ?_
      have a4 := ht' _ s4 σ4 H4 _ J4 q4
      rw [pm, wm, am, xm] at a4
      refine thn a4 fun ok s5 ⟨H5, J5, q5⟩ => ?_
      have keepT : ∀ {σ' : St} {H' : Hp} {s' : Shared}, Inv X' (pins ++ [(D, { cls := .type "list", data := .seq its.toArray k })] ++ pinsAt fp s3.heap) σ' H' s' -> tn (i + 1) s'.heap /\ (∀ b ∈ fp, H' b = none) /\ s'.heap.get? D = some { cls := .type "list", data := .seq its.toArray k } /\ H' D = none /\ Inv X' pins σ' H' s' := fun {σ' H' s'} J0 => by
        refine ⟨T.keep _ _ _ t3 fun b hb o e => (J0.pin (b, o) (List.mem_append_right _ (List.mem_append_right _ (mem_pinsAt hb e)))).1, fun b hb => ?_, ?_, ?_, J0.unpinned.unpinned⟩
        · obtain ⟨o, e, _⟩ := T.obj _ _ t3 b hb
          exact (J0.pin (b, o) (List.mem_append_right _ (List.mem_append_right _ (mem_pinsAt hb e)))).2.1
        · exact (J0.pin (D, _) (List.mem_append_right _ (List.mem_append_left _ (List.mem_append_right _ List.mem_cons_self)))).1
        · exact (J0.pin (D, { cls := .type "list", data := .seq its.toArray k }) (List.mem_append_right _ (List.mem_append_left _ (List.mem_append_right _ List.mem_cons_self)))).2.1
      cases ok with
      | false =>
        obtain ⟨m', hm, w'⟩ := q5
        obtain ⟨e1, e2, e3, e4, e5⟩ := keepT J5
        rw [if_neg Bool.false_ne_true]
        exact ⟨m', hm, i + 1, ys, σ4, H5, its, k, e5, e1, e2, e3, e4, v1, w'⟩
      | true =>
        rw [if_pos rfl]
        have a5 := he' _ s5 σ4 H5 _ J5 q5
        rw [pm, wm, am, xm] at a5
        refine thn a5 fun u6 s6 ⟨y, H6, J6, r6, m', hm, w6⟩ => ?_
        obtain ⟨e1, e2, e3, e4, e5⟩ := keepT J6
        refine append_at (hsz := by show its.toArray.size <= sizeLine; rw [List.size_toArray, <- v1.length]; exact Nat.le_of_lt hlen) e3 fun h7 sb7 d7 => ?_
        have J7 : Inv X' pins σ4 H6 { s6 with heap := h7 } := e5.turned (t' := s6.toks) (it := D) (fun b o hb e => sb7.extBut b o hb e) e4 (by rw [lm]; exact Nat.ne_of_lt hD0) (.inr (by rw [szm, hDD]; exact Nat.le_refl _)) (fun x d e => Nat.ne_of_lt (ageC x d e)) fun p hp => by
          rw [nm] at hp
          exact Nat.ne_of_lt (ageP p hp)
        refine ⟨m', hm, i + 1, ys ++ [y], σ4, H6, its ++ [u6], k + 1, J7, T.keep _ _ _ e1 fun b hb o e => sb7.extBut b o (Nat.ne_of_lt (by rw [<- hDD]; exact hlt b hb)) e, e2, ?_, e4, v1.append (.cons r6 .nil), w6⟩
        rw [d7, List.push_toArray]
  have env1 : ({ newEnv scope C X.env.globals (clOf X.env scope.names []) X.env.qual none .none (some X.env) 0 with scope := relabel scope X.env } : Env) = X'.env := by rw [em]; rfl
  have lp := loop _ rfl
  rw [em] at lp
  exact codeAny_compStart_list lp (T.self _ 0 _ _ _ st1 lp)
def tComp (wi : TI) (fr : List (Option Nat)) (g : TG) (tt : TT) (te : TE) : TE := fun σ H Q => wi σ H fun J H1 =>
  ∃ W, CompW J g tt te (fun ys H' => ∀ p, H' p = none -> Q (.ref p) (upd H' p (.lst ys))) W /\ ∃ m, W 0 m [] (stComp fr σ) H1
theorem pe_comp {wi : TI} (c : CompOk X scope N' fr) (hc : X.calm = true) (hi : PI X tg iter wi) (hg : ∀ fp C s H, PG (cxComp X scope N' fp C s H) tg g) (ht : ∀ fp C s H, PIfs (cxComp X scope N' fp C s H) ifs tt)
    (he : ∀ fp C s H, PE (cxComp X scope N' fp C s H) elt te) (hs : ∀ x, foldedSetIterable iter X.env x = pure x := by intro _; rfl) : PE X (.ListComp elt [⟨tg, iter, ifs, 0⟩] scope pos) (tComp wi fr g tt te) := by
  intro pins s σ H Q I h
  rw [eval_ListComp]
  refine wpAny_comprehension_free (use := none) rfl hs (closure_is (c.has I.ok)) c.kind c.names (thn (hi pins s σ H _ I h) fun v s1 h1 => thn h1 fun itv s2 h2 => ?_)
  obtain ⟨it, fp, tn, J, H2, e, I2, T, st2, f2, W, hW, h0⟩ := h2
  subst e
  refine comp_block c hc I2 T st2 f2 hg ht he hW h0 ?_
  rintro D C ys H' s' J3 ⟨m, hm⟩ ⟨f0, f1, _, f3, f4, f5⟩ nD fi
  exact ⟨m, hm, fun h'' sb => ⟨.ref D, _, J3.turned (t' := s'.toks) (it := C) (fun b o hb e => sb.extBut b o hb e) f0 f1 f3 f4 f5, rfl, fi D nD⟩⟩
def tSetComp (i : Nat) (wi : TI) (fr : List (Option Nat)) (g : TG) (tt : TT) (te : TE) : TS := fun D σ H => wi σ H fun J H1 =>
  ∃ W, CompW J g tt te (fun ys H' => ∀ p, H' p = none -> D.nx (σ.set i (some (.ref p))) (upd H' p (.lst ys))) W /\ ∃ m, W 0 m [] (stComp fr σ) H1
theorem ps_setComp {wi : TI} {i : Nat} {y : Str} {py spos : Pos} (hN : X.N.Nodup) (hi' : X.N[i]? = some y) (hy : Loc X.env.scope y) (c : CompOk X scope N' fr) (hc : X.calm = true) (hi : PI X tg iter wi) (hg : ∀ fp C s H, PG (cxComp X scope N' fp C s H) tg g) (ht : ∀ fp C s H, PIfs (cxComp X scope N' fp C s H) ifs tt)
    (he : ∀ fp C s H, PE (cxComp X scope N' fp C s H) elt te) (hs : ∀ x, foldedSetIterable iter X.env x = pure x := by intro _; rfl)
    (hsw : swapsWith (.ListComp elt [⟨tg, iter, ifs, 0⟩] scope pos) (some (.Name y py)) spos.line X.env = pure true := by rfl) (hf : X.fn y = true \/ X.env.scope.names.lookup y = some .local := by first | exact .inl rfl | exact .inr rfl | assumption) :
    PS X (.Assign [.Name y py] (.ListComp elt [⟨tg, iter, ifs, 0⟩] scope pos) spos) (tSetComp i wi fr g tt te) := by
  intro pins s σ H D I h
  rw [exec_Assign_Name_used _ _ _ _ hsw]
  refine wpAny_bind (wpAny_standAt (wpAny_bind ?_))
  show wpAny _ X.A (do let _ <- comprehension (.ListComp elt [⟨tg, iter, ifs, 0⟩] scope pos) scope X.env _ (newList []) false (eval iter X.env) (some (assign (.Name y py) X.env))) _ _ s
  refine wpAny_bind (thn (wpAny_comprehension_free (use := some (assign (.Name y py) X.env)) (Q := fun _ s' => SP X pins D .next s') rfl hs (closure_is (c.has I.ok)) c.kind c.names
    (thn (hi pins s σ H _ I h) fun v s1 h1 => thn h1 fun itv s2 h2 => ?_)) fun _ s' hq => wpAny_pure (wpAny_pure hq))
  obtain ⟨it, fp, tn, J, H2, e, I2, T, st2, f2, W, hW, h0⟩ := h2
  subst e
  refine comp_block c hc I2 T st2 f2 hg ht he hW h0 ?_
  rintro B C ys H' s' J3 ⟨m, hm⟩ ⟨f0, f1, _, f3, f4, f5⟩ nD fi
  show wpAny _ X.A (assign (.Name y py) X.env (.ref B)) _ _ s'
  refine wpAny_assign_Name (store_ok2 J3 hN hi' hy (show RelV (.ref B) (.ref B) from rfl) (fun s4 J4 ⟨a, sb, ha⟩ => ?_) hf)
  have nCa : C ≠ a := by
    rcases ha with z | z
    · rw [z]; exact f1
    · exact fun q => f4 y a z q.symm
  exact ⟨m, hm.sameBut sb nCa, fun h'' sb2 => ⟨_, _, J4.turned (t' := s4.toks) (it := C) (fun b o hb e => sb2.extBut b o hb e) f0 f1 f3 f4 f5, fi B nD⟩⟩
end
section
variable {X : Cx}
theorem call_isinst : CallR X (.builtin "isinstance") (fun xs H Q => ∃ x c t u b, xs = [x, c] /\ RelV c u /\ TyOf X.K H x t /\ PySem.W.kitOne X.K t u = some b /\ Q (.bl b) H) := by
  intro pins s σ H xs us Q I r h
  obtain ⟨x, c, t, u, b, rfl, rc, ty, e, q⟩ := h
  obtain ⟨u1, u2, rfl, r1, r2⟩ := Vals.two r
  have hu : u2 = u := by
    cases c <;> first
      | exact (show u2 = _ from r2).trans (show u = _ from rc).symm
      | skip
    all_goals (exfalso; obtain ⟨_, rfl⟩ := rc; unfold PySem.W.kitOne PySem.W.kitCls at e; split at e <;> first | (cases ty <;> simp_all) | (simp at e))
  subst hu
  exact isinst_ok I r1 ty e fun tk => ⟨.bl b, H, I.tok tk, rfl, q⟩
inductive SameD (K : PySem.W.Frag) (H : Hp) : Nat -> V -> V -> Prop
  | flat {n : Nat} {x : V} (f : flatV x = true) : SameD K H n x x
  | tup {n : Nat} {a b : Addr} {xs ys : List V} (ha : SqT K H a xs) (hb : SqT K H b ys) (hl : xs.length = ys.length) (h : ∀ (i : Nat) (x y : V), xs[i]? = some x -> ys[i]? = some y -> SameD K H n x y) : SameD K H (n + 1) (.ref a) (.ref b)
  | lst {n : Nat} {a b : Addr} {xs ys : List V} (ha : SqL K H a xs) (hb : SqL K H b ys) (hl : xs.length = ys.length) (h : ∀ (i : Nat) (x y : V), xs[i]? = some x -> ys[i]? = some y -> SameD K H n x y) : SameD K H (n + 1) (.ref a) (.ref b)
theorem eqV_self {x : V} (f : flatV x = true) : eqV x x = true := by
  cases x <;> first | (exact absurd (show false = true from f) Bool.false_ne_true) | rfl | (simp [eqV])
theorem range_all_true (n : Nat) (e : Nat -> Bool) (h : ∀ i, e i = true) : (List.range n).all e = true := by
  rw [List.all_eq_true]; intro i _; exact h i
theorem in1_units {A : Around} : A.in1.units <= A.units + 1 := by
  first
    | exact Nat.le_refl _
    | exact Nat.le_succ _
    | (simp [Around.in1])
theorem SameD.rc {pins : List (Addr × Obj)} {σ : St} {H : Hp} {s : Shared} (I : Inv X pins σ H s) {n : Nat} {x y : V} (h : SameD X.K H n x y) : ∀ (A : Around), A.units + n < cLine -> ∀ (u v : Value), RelV x u -> RelV y v -> SeqAt.EqAt A s u v true := by
  induction h with
  | flat f => intro A hu u v ru rv; have := eqAt_V (A := A) (s := s) ru rv f f; rw [eqV_self f] at this; exact this
  | @tup n a b xs ys ha hb hl _ ih =>
    intro A hu u v ru rv
    cases (show u = Value.ref a from ru)
    cases (show v = Value.ref b from rv)
    by_cases e : a = b
    · subst e; exact SeqAt.EqAt.same _
    · obtain ⟨its, r1, t1, _⟩ := I.tuple ha
      obtain ⟨its2, r2, t2, _⟩ := I.tuple hb
      have hz : its.toArray.size = its2.toArray.size := by simp [<- r1.length, <- r2.length, hl]
      refine SeqAt.EqAt.of_refs e ?_
      have q := SeqAt.RcAt.tuples (e := fun _ => true) (A := A) t1 t2 (by lia) (fun j h1 h2 => ?_)
      · rw [range_all_true _ _ (fun _ => rfl), hz] at q
        simpa using q
      · have l1 : j < xs.length := by have := r1.length; simp at h1; lia
        have l2 : j < ys.length := by lia
        obtain ⟨u1, e1, q1⟩ := r1.get (i := j) (x := xs[j]) (by simp [l1])
        obtain ⟨u2, e2, q2⟩ := r2.get (i := j) (x := ys[j]) (by simp [l2])
        have w1 : its.toArray[j] = u1 := by have := List.getElem?_eq_some_iff.mp e1; simpa using this.2
        have w2 : its2.toArray[j] = u2 := by have := List.getElem?_eq_some_iff.mp e2; simpa using this.2
        rw [w1, w2]
        exact ih j _ _ (by simp [l1]) (by simp [l2]) A.in1 (by have := @in1_units A; lia) _ _ q1 q2
  | @lst n a b xs ys ha hb hl _ ih =>
    intro A hu u v ru rv
    cases (show u = Value.ref a from ru)
    cases (show v = Value.ref b from rv)
    by_cases e : a = b
    · subst e; exact SeqAt.EqAt.same _
    · obtain ⟨its, r1, t1, _⟩ := I.list ha
      obtain ⟨its2, r2, t2, _⟩ := I.list hb
      have hz : its.toArray.size = its2.toArray.size := by simp [<- r1.length, <- r2.length, hl]
      refine SeqAt.EqAt.of_refs e ?_
      have q := SeqAt.RcAt.lists (e := fun _ => true) (A := A) t1.isList t2.isList hz (by lia) (fun j h1 h2 => ?_)
      · rw [range_all_true _ _ (fun _ => rfl)] at q
        exact q
      · have l1 : j < xs.length := by have := r1.length; simp at h1; lia
        have l2 : j < ys.length := by lia
        obtain ⟨u1, e1, q1⟩ := r1.get (i := j) (x := xs[j]) (by simp [l1])
        obtain ⟨u2, e2, q2⟩ := r2.get (i := j) (x := ys[j]) (by simp [l2])
        have w1 : its.toArray[j] = u1 := by have := List.getElem?_eq_some_iff.mp e1; simpa using this.2
        have w2 : its2.toArray[j] = u2 := by have := List.getElem?_eq_some_iff.mp e2; simpa using this.2
        rw [w1, w2]
        exact ih j _ _ (by simp [l1]) (by simp [l2]) A.in1 (by have := @in1_units A; lia) _ _ q1 q2
def rSame (K : PySem.W.Frag) (out : Bool) : R2 := fun x y H Q => ∃ a b xs ys n, x = .ref a /\ y = .ref b /\ ((SqT K H a xs /\ SqT K H b ys) \/ (SqL K H a xs /\ SqL K H b ys)) /\ xs.length = ys.length /\ n <= 64 /\
  (∀ (i : Nat) (x y : V), xs[i]? = some x -> ys[i]? = some y -> SameD K H n x y) /\ Q (.bl out) H
theorem same_items {pins : List (Addr × Obj)} {σ : St} {H : Hp} {s : Shared} (I : Inv X pins σ H s) {A : Around} {n : Nat} {xs ys : List V} {its its2 : List Value} (hu : A.units + n < cLine) (r1 : Vals xs its) (r2 : Vals ys its2) (hl : xs.length = ys.length)
    (h : ∀ (i : Nat) (x y : V), xs[i]? = some x -> ys[i]? = some y -> SameD X.K H n x y) : ∀ j (h1 : j < its.toArray.size) (h2 : j < its2.toArray.size), SeqAt.EqAt A s its.toArray[j] its2.toArray[j] true := by
  intro j h1 h2
  have l1 : j < xs.length := by have := r1.length; simp at h1; lia
  have l2 : j < ys.length := by lia
  obtain ⟨u1, e1, q1⟩ := r1.get (i := j) (x := xs[j]) (by simp [l1])
  obtain ⟨u2, e2, q2⟩ := r2.get (i := j) (x := ys[j]) (by simp [l2])
  have w1 : its.toArray[j] = u1 := by have := List.getElem?_eq_some_iff.mp e1; simpa using this.2
  have w2 : its2.toArray[j] = u2 := by have := List.getElem?_eq_some_iff.mp e2; simpa using this.2
  rw [w1, w2]
  exact (h j _ _ (by simp [l1]) (by simp [l2])).rc I A hu _ _ q1 q2
theorem op_eqS (hu : X.A.units + 66 < cLine) : OpR X (compareOp .Eq) (rSame X.K true) := by
  intro pins s σ H x y v u Q I rx ry h
  obtain ⟨a, b, xs, ys, n, rfl, rfl, hk, hl, hn, hs, q⟩ := h
  cases (show v = Value.ref a from rx)
  cases (show u = Value.ref b from ry)
  have hu1 : X.A.in1.units + n < cLine := by have := @in1_units X.A; lia
  rcases hk with ⟨ha, hb⟩ | ⟨ha, hb⟩
  · obtain ⟨its, r1, t1, _⟩ := I.tuple ha
    obtain ⟨its2, r2, t2, _⟩ := I.tuple hb
    have hz : its.toArray.size = its2.toArray.size := by simp [<- r1.length, <- r2.length, hl]
    refine SeqAt.eq_tupleAt (e := fun _ => true) t1 t2 (by lia) (same_items I hu1 r1 r2 hl hs) ?_
    rw [range_all_true _ _ (fun _ => rfl), hz]
    exact ⟨.bl true, H, I, by simp [RelV], q⟩
  · obtain ⟨its, r1, t1, _⟩ := I.list ha
    obtain ⟨its2, r2, t2, _⟩ := I.list hb
    have hz : its.toArray.size = its2.toArray.size := by simp [<- r1.length, <- r2.length, hl]
    refine SeqAt.eq_listAt (e := fun _ => true) t1.isList t2.isList hz (by lia) (same_items I hu1 r1 r2 hl hs) ?_
    rw [range_all_true _ _ (fun _ => rfl)]
    exact ⟨.bl true, H, I, rfl, q⟩
theorem op_neS (hu : X.A.units + 66 < cLine) : OpR X (compareOp .NotEq) (rSame X.K false) := by
  intro pins s σ H x y v u Q I rx ry h
  obtain ⟨a, b, xs, ys, n, rfl, rfl, hk, hl, hn, hs, q⟩ := h
  cases (show v = Value.ref a from rx)
  cases (show u = Value.ref b from ry)
  have hu1 : X.A.in1.units + n < cLine := by have := @in1_units X.A; lia
  rcases hk with ⟨ha, hb⟩ | ⟨ha, hb⟩
  · obtain ⟨its, r1, t1, _⟩ := I.tuple ha
    obtain ⟨its2, r2, t2, _⟩ := I.tuple hb
    have hz : its.toArray.size = its2.toArray.size := by simp [<- r1.length, <- r2.length, hl]
    refine EqBoolInt.of_rcne (SeqAt.RcNeAt.tuples (e := fun _ => true) t1 t2 (by lia) (same_items I hu1 r1 r2 hl hs)) ?_
    rw [range_all_true _ _ (fun _ => rfl), hz]
    exact ⟨.bl false, H, I, by simp [RelV], q⟩
  · obtain ⟨its, r1, t1, _⟩ := I.list ha
    obtain ⟨its2, r2, t2, _⟩ := I.list hb
    have hz : its.toArray.size = its2.toArray.size := by simp [<- r1.length, <- r2.length, hl]
    refine EqBoolInt.of_rcne (SeqAt.RcNeAt.lists (e := fun _ => true) t1.isList t2.isList hz (by lia) (same_items I hu1 r1 r2 hl hs)) ?_
    rw [range_all_true _ _ (fun _ => rfl)]
    exact ⟨.bl false, H, I, rfl, q⟩
theorem kept_iter {h h' : Heap} {o : Obj} (hk : ∀ b u, b ∉ [h.objs.size] -> (h.push o).get? b = some u -> h'.get? b = some u) : ∀ b u, h.get? b = some u -> h'.get? b = some u := fun b u e =>
  hk b u (fun hm => absurd (Heap.lt_size e) (by rw [List.mem_singleton.mp hm]; exact Nat.lt_irrefl _)) (Heap.get?_push_of_some _ e)
theorem bools_at {bs : List Bool} {its : List Value} (r : Vals (bs.map V.bl) its) {i : Nat} {v : Value} (e : its.toArray[i]? = some v) : v = .bool (bs.getD i false) := by
  have e' : its[i]? = some v := by simpa using e
  have hl : i < its.length := (List.getElem?_eq_some_iff.mp e').1
  have hb : i < bs.length := by have := r.length; rw [List.length_map] at this; lia
  obtain ⟨u, e1, q⟩ := r.get (i := i) (x := V.bl bs[i]) (by simp [hb])
  rw [e1] at e'
  cases e'
  have e3 : v = Value.bool bs[i] := q
  rw [e3]
  simp [List.getD, hb]
theorem range_all_get (bs : List Bool) : (List.range bs.length).all (fun i => bs.getD i false) = bs.all id := by
  rw [Bool.eq_iff_iff, List.all_eq_true, List.all_eq_true]
  constructor
  · intro h x hx
    obtain ⟨i, hi, e⟩ := List.mem_iff_getElem.mp hx
    have := h i (List.mem_range.mpr hi)
    simp [List.getD, hi, e] at this
    exact this
  · intro h i hi
    have hi' := List.mem_range.mp hi
    have := h bs[i] (List.getElem_mem hi')
    simpa [List.getD, hi'] using this
theorem call_all (hc : X.calm = true) : CallR X (.builtin "all") (fun xs H Q => ∃ (p : Addr) (bs : List Bool), xs = [.ref p] /\ SqL X.K H p (bs.map V.bl) /\ Q (.bl (bs.all id)) H) := by
  intro pins s σ H xs us Q I r h
  obtain ⟨p, bs, rfl, hp, q⟩ := h
  obtain ⟨u, rfl, ru⟩ := Vals.one r
  cases (show u = Value.ref p from ru)
  obtain ⟨its, r1, t1, _⟩ := I.list hp
  have hh : X.A.in1.handled = none := I.ok.hd hc
  have hlt : p < s.heap.objs.size := by obtain ⟨_, e, _⟩ := t1.isList; exact Heap.lt_size e
  refine call_all_walk (wpAny_pyIter_list t1.isList ⟨_, _, _, _, _, _, fun i => bs.getD i false, rfl, Walks.list hh _ p (Nat.ne_of_lt hlt) its.toArray, ⟨⟨_, Heap.get?_push_size _ rfl, rfl, rfl⟩, t1.isList.push _⟩, ?_, ?_⟩)
  · intro i v s' Q' E' e hq
    rw [bools_at r1 e]
    exact wpAny_truthy_bool hq
  · intro h' tk hk
    have hl : its.toArray.size = bs.length := by have := r1.length; simp at this ⊢; lia
    rw [hl, range_all_get]
    exact ⟨.bl _, H, I.kept (kept_iter hk), rfl, q⟩
end
section
variable {X : Cx} {pins : List (Addr × Obj)} {σ : St} {H : Hp} {s : Shared}
theorem Inv.turnM {ch : List Addr} {t' : Nat} {h' : Heap} (I : Inv X pins σ H s) (hf : ∀ b ∈ ch, FpOk X pins H b) (k : ∀ b u, b ∉ ch -> s.heap.get? b = some u -> h'.get? b = some u) : Inv X pins σ H { s with heap := h', toks := t' } := by
  have nch : ∀ b u, H b = some u -> b ∉ ch := fun b u e z => by have := (hf b z).1; rw [this] at e; cases e
  refine I.step (g' := s.gens) (d' := s.drawn) (ch := ch) (fun b hb => ⟨(hf b hb).2.2.2.1, (hf b hb).2.1, (hf b hb).2.2.2.2.1, (hf b hb).2.2.2.2.2⟩) (fun b o _ _ hc e _ => k b o hc e) (fun b o _ _ hc e _ => ⟨o.slots, k b o hc e⟩) (fun _ _ _ _ n => n)
    (fun b o hc e => ⟨o, k b o hc e⟩) (fun _ _ e => e) (fun _ _ _ e => e) (fun b ps e => ⟨#[], by rw [e]; simp⟩) (fun m hm => ?_) (fun b u e => ?_) I.bare
  · obtain ⟨o, es, ep, ho, r⟩ := hm
    exact ⟨o, es, ep, k _ o (fun z => (hf _ z).2.1 rfl) ho, r⟩
  · refine (I.hok b u e).stay (fun c v hc q => k c v ?_ q) (fun _ q => q) fun _ _ q => q
    rcases hc with z | z
    · rw [z]; exact nch b u e
    · exact nch c _ z
theorem Inv.turnNew {ch : List Addr} {T : Addr} {o : HO} {t' : Nat} {h' : Heap} (I : Inv X pins σ H s) (hf : ∀ b ∈ ch, FpOk X pins H b) (k : ∀ b u, b ∉ ch -> s.heap.get? b = some u -> h'.get? b = some u) (hT : s.heap.objs.size <= T)
    (new : ObjOk X.prog X.w (upd H T o) h' T o) : Inv X pins σ (upd H T o) { s with heap := h', toks := t' } := by
  have nch : ∀ b u, H b = some u -> b ∉ ch := fun b u e z => by have := (hf b z).1; rw [this] at e; cases e
  have nT : H T = none := I.hok.fresh hT
  have neT : ∀ b u, s.heap.get? b = some u -> b ≠ T := fun b u e => Nat.ne_of_lt (Nat.lt_of_lt_of_le (Heap.lt_size e) hT)
  refine I.step (g' := s.gens) (d' := s.drawn) (ch := ch) (fun b hb => ⟨(hf b hb).2.2.2.1, (hf b hb).2.1, (hf b hb).2.2.2.2.1, (hf b hb).2.2.2.2.2⟩) (fun b o _ _ hc e _ => k b o hc e) (fun b o _ _ hc e _ => ⟨o.slots, k b o hc e⟩) (fun b u _ e n => by rw [upd_ne (neT b u e)]; exact n)
    (fun b o hc e => ⟨o, k b o hc e⟩) (fun b xs e => by rw [upd_ne (ne_of_none e nT)]; exact e) (fun b o u e => by rw [upd_ne (ne_of_none e nT)]; exact e) (fun b ps e => ⟨#[], by rw [upd_ne (ne_of_none e nT), e]; simp⟩) (fun m hm => ?_) (fun b u e => ?_) I.bare
  · obtain ⟨o, es, ep, ho, r⟩ := hm
    exact ⟨o, es, ep, k _ o (fun z => (hf _ z).2.1 rfl) ho, r⟩
  · by_cases hb : b = T
    · subst hb
      rw [upd_same] at e
      cases e
      exact new
    · rw [upd_ne hb] at e
      refine (I.hok b u e).stay (fun c v hc q => k c v ?_ q) (fun c r => by rw [upd_ne (ne_of_none r nT)]; exact r) fun c xs r => by rw [upd_ne (ne_of_none r nT)]; exact r
      rcases hc with z | z
      · rw [z]; exact nch b u e
      · exact nch c _ z
end
inductive Kd | l | t
def ItAt (k : Kd) (h : Heap) (it a : Addr) (i : Nat) : Prop := match k with | .l => h.IsListIter it a i | .t => h.IsTupleIter it a i
def SqK (k : Kd) (K : PySem.W.Frag) (H : Hp) (a : Addr) (xs : List V) : Prop := match k with | .l => SqL K H a xs | .t => SqT K H a xs
def SeqIs (k : Kd) (h : Heap) (a : Addr) (its : List Value) : Prop := match k with | .l => h.IsList a its.toArray | .t => h.IsTuple a its.toArray
def iterTy : Kd -> String | .l => "list_iterator" | .t => "tuple_iterator"
theorem Inv.seq {X : Cx} {pins : List (Addr × Obj)} {σ : St} {H : Hp} {s : Shared} (I : Inv X pins σ H s) {k : Kd} {a : Addr} {xs : List V} (h : SqK k X.K H a xs) : ∃ its : List Value, Vals xs its /\ SeqIs k s.heap a its /\ xs.length <= sizeLine := by
  cases k with
  | l => obtain ⟨its, r, t, z⟩ := I.list h; exact ⟨its, r, t.isList, z⟩
  | t => obtain ⟨its, r, t, z⟩ := I.tuple h; exact ⟨its, r, t, z⟩
theorem ItAt.kept {k : Kd} {h h' : Heap} {it a : Addr} {i : Nat} (q : ItAt k h it a i) (e : ∀ o, h.get? it = some o -> h'.get? it = some o) : ItAt k h' it a i := by
  cases k with
  | l => obtain ⟨o, ho, r⟩ := (show h.IsListIter it a i from q); exact ⟨o, e _ ho, r⟩
  | t => obtain ⟨o, ho, r⟩ := (show h.IsTupleIter it a i from q); exact ⟨o, e _ ho, r⟩
theorem ItAt.obj {k : Kd} {h : Heap} {it a : Addr} {i : Nat} (q : ItAt k h it a i) : ∃ o, h.get? it = some o /\ ∀ v, o.data ≠ .cell v := by
  cases k with
  | l => obtain ⟨o, ho, _, d⟩ := (show h.IsListIter it a i from q); exact ⟨o, ho, fun v z => by rw [d] at z; cases z⟩
  | t => obtain ⟨o, ho, _, d⟩ := (show h.IsTupleIter it a i from q); exact ⟨o, ho, fun v z => by rw [d] at z; cases z⟩
theorem SeqIs.kept {k : Kd} {h h' : Heap} {a : Addr} {its : List Value} (q : SeqIs k h a its) (e : ∀ o, h.get? a = some o -> h'.get? a = some o) : SeqIs k h' a its := by
  cases k with
  | l => obtain ⟨o, ho, r⟩ := (show h.IsList a its.toArray from q); exact ⟨o, e _ ho, r⟩
  | t => obtain ⟨o, ho, r⟩ := (show h.IsTuple a its.toArray from q); exact ⟨o, e _ ho, r⟩
section
variable {prog : Program} {w : World} {A : Around} {E : Value -> Shared -> Prop} {s : Shared}
theorem next_tup {it t : Addr} {i : Nat} {its : List Value} {x : Value} {Q : Value -> Shared -> Prop} (hi : s.heap.IsTupleIter it t i) (ht : s.heap.IsTuple t its.toArray) (hx : its[i]? = some x)
    (q : ∀ h', h'.IsTupleIter it t (i + 1) -> Heap.SameBut it s.heap h' -> Q x { s with heap := h' }) : wpAny (model prog w) A (Builtin.SmallTypes.nextOf (.ref it)) Q E s := by
  obtain ⟨oi, gi, ci, di⟩ := id hi
  obtain ⟨ot, gt, _, nt, dt⟩ := ht
  have hx' : its.toArray[i]? = some x := by simpa using hx
  unfold Builtin.SmallTypes.nextOf
  refine wpAny_bind (wpAny_callSpecial?_slot (name := Str.ofString "__next__") hi.typeIs F.slot_tuple_iterator_next (wpAny_call_entry F.slot_tuple_iterator_next hi.typeIs F.entry_tuple_iterator_next ?_ (F.args_tuple_iterator_next_1 _)))
  show wpAny _ _ (field (Value.ref it) 0 >>= _) _ _ s
  refine wpAny_bind (wpAny_field gi di (x := Value.ref t) rfl ?_)
  rw [if_neg (show ¬ ((Value.ref t == Value.none) = true) by intro z; cases z)]
  refine wpAny_bind (wpAny_field gi di (x := Value.int i 0) rfl ?_)
  refine wpAny_bind (wpAny_seqItems gt dt ?_)
  simp only [Int.toNat_natCast, hx']
  refine wpAny_bind (wpAny_setField gi di (by simp) (wpAny_pure ⟨x, rfl, wpAny_pure (q _ ?_ (Heap.SameBut.update ..))⟩))
  refine ⟨_, Heap.get?_update_self _ gi (Obj.isFreed_of_fields (Obj.data_mapFields di _)), (Obj.cls_mapFields ..).trans ci, ?_⟩
  rw [Obj.data_mapFields di]
  simp [rawInt]
theorem end_tup {it t : Addr} {i : Nat} {its : List Value} {Q : Value -> Shared -> Prop} (hh : A.handled = none) (hi : s.heap.IsTupleIter it t i) (ht : s.heap.IsTuple t its.toArray) (hx : its.length <= i)
    (q : ∀ h' e, Heap.ExtBut it s.heap h' -> (∃ o, h'.get? e = some o /\ o.cls = .type "StopIteration") -> E (.ref e) { s with heap := h' }) : wpAny (model prog w) A (Builtin.SmallTypes.nextOf (.ref it)) Q E s := by
  obtain ⟨oi, gi, ci, di⟩ := id hi
  obtain ⟨ot, gt, _, nt, dt⟩ := ht
  have hx' : its.toArray[i]? = none := by simpa using hx
  unfold Builtin.SmallTypes.nextOf
  refine wpAny_bind (wpAny_callSpecial?_slot (name := Str.ofString "__next__") hi.typeIs F.slot_tuple_iterator_next (wpAny_call_entry F.slot_tuple_iterator_next hi.typeIs F.entry_tuple_iterator_next ?_ (F.args_tuple_iterator_next_1 _)))
  show wpAny _ _ (field (Value.ref it) 0 >>= _) _ _ s
  refine wpAny_bind (wpAny_field gi di (x := Value.ref t) rfl ?_)
  rw [if_neg (show ¬ ((Value.ref t == Value.none) = true) by intro z; cases z)]
  refine wpAny_bind (wpAny_field gi di (x := Value.int i 0) rfl ?_)
  refine wpAny_bind (wpAny_seqItems gt dt ?_)
  simp only [Int.toNat_natCast, hx']
  refine wpAny_bind (wpAny_rule (wpAny_bind (wpAny_setField gi di (by simp) (wpAny_bind ?_))))
  simp only [newExc, newTuple]
  refine wpAny_bind (wpAny_newObj_type (wpAny_bind (m := firstArgMember _ _) (wpAny_of_eq (a := Value.none) ?_ (wpAny_newObj_type ?_ (by size_fits)))) (by size_fits))
  · first | rfl | (simp only [firstArgMember]; rfl)
  simp only [raiseNew]
  refine wpAny_bind (wpAny_handled ?_)
  first | rw [show A.in1.handled = none from hh] | rw [hh]
  exact wpAny_bind (wpAny_pure (wpAny_throw (q _ _ (((Heap.SameBut.update ..).extBut.push _).push _) ⟨_, Heap.get?_push_size _ rfl, rfl⟩)))
theorem next_seq {k : Kd} {it a : Addr} {i : Nat} {its : List Value} {x : Value} {Q : Value -> Shared -> Prop} (hi : ItAt k s.heap it a i) (hs : SeqIs k s.heap a its) (hx : its[i]? = some x)
    (q : ∀ h', ItAt k h' it a (i + 1) -> Heap.SameBut it s.heap h' -> Q x { s with heap := h' }) : wpAny (model prog w) A (Builtin.SmallTypes.nextOf (.ref it)) Q E s := by
  cases k with
  | l => exact wpAny_nextOf_list_item hi hs (by simpa using hx) q
  | t => exact next_tup hi hs hx q
theorem end_seq {k : Kd} {it a : Addr} {i : Nat} {its : List Value} {Q : Value -> Shared -> Prop} (hh : A.handled = none) (hi : ItAt k s.heap it a i) (hs : SeqIs k s.heap a its) (hx : its.length <= i)
    (q : ∀ h' e, Heap.ExtBut it s.heap h' -> (∃ o, h'.get? e = some o /\ o.cls = .type "StopIteration") -> E (.ref e) { s with heap := h' }) : wpAny (model prog w) A (Builtin.SmallTypes.nextOf (.ref it)) Q E s := by
  cases k with
  | l => exact wpAny_nextOf_list_end hh hi hs (by simpa using hx) q
  | t => exact end_tup hh hi hs hx q
theorem iter_seq {k : Kd} {a : Addr} {its : List Value} {Q : Value -> Shared -> Prop} (hs : SeqIs k s.heap a its)
    (q : Q (.ref s.heap.objs.size) { s with heap := s.heap.push { cls := .type (iterTy k), data := .fields #[.ref a, .int 0 0] } }) : wpAny (model prog w) A (pyIter (.ref a)) Q E s := by
  cases k with
  | l => exact wpAny_pyIter_list hs q
  | t => exact wpAny_pyIter_tuple hs q
theorem iter_at {k : Kd} {h : Heap} {a : Addr} : ItAt k (h.push { cls := .type (iterTy k), data := .fields #[.ref a, .int 0 0] }) h.objs.size a 0 := by
  cases k with
  | l => exact ⟨_, Heap.get?_push_size _ rfl, rfl, rfl⟩
  | t => exact ⟨_, Heap.get?_push_size _ rfl, rfl, rfl⟩
end
open AutoSeq1 (wpAny_loadPart')
section
variable {prog : Program} {w : World} {A : Around} {E : Value -> Shared -> Prop} {s : Shared}
end
theorem Inv.seq_inj {X : Cx} {pins : List (Addr × Obj)} {σ : St} {H : Hp} {s : Shared} (I : Inv X pins σ H s) {k : Kd} {a : Addr} {xs ys : List V} (h : SqK k X.K H a xs) (h' : SqK k X.K H a ys) : xs = ys := by
  cases k with
  | l => exact I.list_inj h h'
  | t => exact I.tuple_inj h h'
open AutoSeq1 (wpAny_loadPart')
structure ZipAt (h : Heap) (k1 k2 : Kd) (z TI TO i1 i2 l1 l2 : Addr) (f0 : Value) (n : Nat) : Prop where
  zz : IsZip h z TI TO f0
  ti : IsPair h TI (.ref i1) (.ref i2)
  to : ∃ a b, IsPair h TO a b
  a1 : ItAt k1 h i1 l1 n
  a2 : ItAt k2 h i2 l2 n
structure ZipNe (z TI TO i1 i2 : Addr) : Prop where
  TIz : TI ≠ z
  TOz : TO ≠ z
  i1z : i1 ≠ z
  i2z : i2 ≠ z
  TITO : TI ≠ TO
  TIi1 : TI ≠ i1
  TIi2 : TI ≠ i2
  TOi1 : TO ≠ i1
  TOi2 : TO ≠ i2
  i12 : i1 ≠ i2
section
variable {prog : Program} {w : World} {A : Around} {E : Value -> Shared -> Prop} {s : Shared}
theorem zip_step {k1 k2 : Kd} {z TI TO i1 i2 l1 l2 : Addr} {n : Nat} {xs ys : List Value} {x y : Value} {Q : Value -> Shared -> Prop} (D : ZipNe z TI TO i1 i2) (Z : ZipAt s.heap k1 k2 z TI TO i1 i2 l1 l2 .none n)
    (L1 : ∀ h', (∀ b o, b ≠ z -> b ≠ TO -> b ≠ i1 -> b ≠ i2 -> s.heap.get? b = some o -> h'.get? b = some o) -> SeqIs k1 h' l1 xs) (L2 : ∀ h', (∀ b o, b ≠ z -> b ≠ TO -> b ≠ i1 -> b ≠ i2 -> s.heap.get? b = some o -> h'.get? b = some o) -> SeqIs k2 h' l2 ys)
    (hx : xs[n]? = some x) (hy : ys[n]? = some y)
    (q : ∀ h', ZipAt h' k1 k2 z TI TO i1 i2 l1 l2 (rawInt s.heap.objs.size) (n + 1) -> IsPair h' s.heap.objs.size x y ->
      (∀ c o, c ≠ z -> c ≠ TO -> c ≠ i1 -> c ≠ i2 -> s.heap.get? c = some o -> h'.get? c = some o) -> Q (.ref s.heap.objs.size) { s with heap := h' }) :
    wpAny (model prog w) A (Builtin.«zip.__next__» ⟨[.ref z], []⟩) (fun fin s' => ∃ v, fin = .done (.ret v) /\ Q v s') E s := by
  obtain ⟨zz, ti, ⟨a, b, to⟩, a1, a2⟩ := Z
  show wpAny _ _ (field (Value.ref z) 2 >>= _) _ _ _
  refine wpAny_bind (wpAny_field zz rfl (x := Value.bool false) rfl (wpAny_bind (wpAny_field zz rfl (x := Value.ref TI) rfl (wpAny_bind (wpAny_seqItems ti rfl (wpAny_bind ?_))))))
  unfold Builtin.SmallTypes.ownedTupleIsFree
  refine wpAny_bind (wpAny_field zz rfl (x := Value.none) rfl (wpAny_pure ?_))
  simp only [if_true]
  refine wpAny_bind (wpAny_rule (wpAny_bind (wpAny_field zz rfl (x := Value.ref TO) rfl (wpAny_bind (wpAny_setField_rec zz (by simp) fun g1 z1 b1 => wpAny_bind ?_)))))
  replace z1 : IsZip g1 z TI TO .ellipsis := z1
  replace b1 : Heap.SameBut z s.heap g1 := b1
  simp only [List.zipIdx_cons, List.zipIdx_nil, List.forIn_cons, List.forIn_nil]
  have K1 : ∀ c o, c ≠ z -> c ≠ TO -> c ≠ i1 -> c ≠ i2 -> s.heap.get? c = some o -> g1.get? c = some o := fun c o h1 _ _ _ e => b1.extBut c o h1 e
  refine wpAny_bind (wpAny_bind (wpAny_onRaise (wpAny_bind (next_seq (s := { s with heap := g1 }) (a1.kept fun o e => b1.extBut _ o D.i1z e) (L1 g1 K1) hx fun g2 j1 b2 => wpAny_pure ?_))))
  replace b2 : Heap.SameBut i1 g1 g2 := b2
  have t2 : IsPair g2 TO a b := b2.extBut _ _ D.TOi1 (b1.extBut _ _ D.TOz to)
  refine wpAny_bind (wpAny_seqItems t2 rfl (wpAny_bind (wpAny_updateSeq_pair t2 fun g3 t3 b3 => ?_)))
  replace t3 : IsPair g3 TO x b := t3
  replace b3 : Heap.SameBut TO g2 g3 := b3
  refine wpAny_bind (wpAny_letGo (wpAny_pure ?_))
  have K3 : ∀ c o, c ≠ z -> c ≠ TO -> c ≠ i1 -> c ≠ i2 -> s.heap.get? c = some o -> g3.get? c = some o := fun c o h1 h2 h3 h4 e => b3.extBut c o h2 (b2.extBut c o h3 (K1 c o h1 h2 h3 h4 e))
  have a3 : ItAt k2 g3 i2 l2 n := a2.kept fun o e => b3.extBut _ o D.TOi2.symm (b2.extBut _ o D.i12.symm (b1.extBut _ o D.i2z e))
  refine wpAny_bind (wpAny_bind (wpAny_onRaise (wpAny_bind (next_seq (s := { s with heap := g3 }) a3 (L2 g3 K3) hy fun g4 j2 b4 => wpAny_pure ?_))))
  replace b4 : Heap.SameBut i2 g3 g4 := b4
  have t4 : IsPair g4 TO x b := b4.extBut _ _ D.TOi2 t3
  refine wpAny_bind (wpAny_seqItems t4 rfl (wpAny_bind (wpAny_updateSeq_pair t4 fun g5 t5 b5 => ?_)))
  replace t5 : IsPair g5 TO x y := t5
  replace b5 : Heap.SameBut TO g4 g5 := b5
  refine wpAny_bind (wpAny_letGo (wpAny_pure (wpAny_pure (wpAny_bind (wpAny_seqItems t5 rfl (wpAny_bind (wpAny_newTuple ?_)))))))
  have sz : g5.objs.size = s.heap.objs.size := by rw [b5.1, b4.1, b3.1, b2.1, b1.1]
  have z5 : IsZip g5 z TI TO .ellipsis := b5.extBut _ _ D.TOz.symm (b4.extBut _ _ D.i2z.symm (b3.extBut _ _ D.TOz.symm (b2.extBut _ _ D.i1z.symm z1)))
  have K5 : ∀ c o, c ≠ z -> c ≠ TO -> c ≠ i1 -> c ≠ i2 -> s.heap.get? c = some o -> g5.get? c = some o := fun c o h1 h2 h3 h4 e => b5.extBut c o h2 (b4.extBut c o h4 (K3 c o h1 h2 h3 h4 e))
  have m1 : ItAt k1 g5 i1 l1 (n + 1) := j1.kept fun o e => b5.extBut _ o D.TOi1.symm (b4.extBut _ o D.i12 (b3.extBut _ o D.TOi1.symm e))
  have m2 : ItAt k2 g5 i2 l2 (n + 1) := j2.kept fun o e => b5.extBut _ o D.TOi2.symm e
  have zl : z < g5.objs.size := Heap.lt_size z5
  show wpAny _ _ (Builtin.SmallTypes.ownedTupleHandOut (Value.ref z) (Value.ref g5.objs.size) >>= _) _ _ _
  refine wpAny_bind ?_
  unfold Builtin.SmallTypes.ownedTupleHandOut
  have z6 : IsZip (g5.push { cls := .type "tuple", data := .seq #[x, y] }) z TI TO .ellipsis := Heap.get?_push_of_some _ z5
  refine wpAny_bind (wpAny_setField_rec z6 (by simp) fun g7 z7 b7 => wpAny_setField_rec z7 (by simp) fun g8 z8 b8 => ?_)
  replace z8 : IsZip g8 z TI TO (rawInt g5.objs.size) := z8
  replace b8 : Heap.SameBut z g7 g8 := b8
  replace b7 : Heap.SameBut z (g5.push { cls := .type "tuple", data := .seq #[x, y] }) g7 := b7
  have up : ∀ c o, c ≠ z -> g5.get? c = some o -> g8.get? c = some o := fun c o h e => b8.extBut _ _ h (b7.extBut _ _ h (Heap.get?_push_of_some _ e))
  have t8 : IsPair g8 g5.objs.size x y := b8.extBut _ _ (Nat.ne_of_gt zl) (b7.extBut _ _ (Nat.ne_of_gt zl) (Heap.get?_push_size _ rfl))
  rw [sz] at z8 t8
  refine wpAny_pure ⟨_, rfl, ?_⟩
  show Q (Value.ref g5.objs.size) _
  rw [sz]
  exact q g8 ⟨z8, up _ _ D.TIz (K5 _ _ D.TIz D.TITO D.TIi1 D.TIi2 ti), ⟨_, _, up _ _ D.TOz t5⟩, m1.kept fun o e => up _ o D.i1z e, m2.kept fun o e => up _ o D.i2z e⟩ t8 fun c o h1 h2 h3 h4 e => up c o h1 (K5 c o h1 h2 h3 h4 e)
theorem zip_item {k1 k2 : Kd} {z TI TO i1 i2 l1 l2 : Addr} {n : Nat} {xs ys : List Value} {x y : Value} {Q : Option Value -> Shared -> Prop} (D : ZipNe z TI TO i1 i2) (Z : ZipAt s.heap k1 k2 z TI TO i1 i2 l1 l2 .none n)
    (L1 : ∀ h', (∀ b o, b ≠ z -> b ≠ TO -> b ≠ i1 -> b ≠ i2 -> s.heap.get? b = some o -> h'.get? b = some o) -> SeqIs k1 h' l1 xs) (L2 : ∀ h', (∀ b o, b ≠ z -> b ≠ TO -> b ≠ i1 -> b ≠ i2 -> s.heap.get? b = some o -> h'.get? b = some o) -> SeqIs k2 h' l2 ys)
    (hx : xs[n]? = some x) (hy : ys[n]? = some y)
    (q : ∀ h', ZipAt h' k1 k2 z TI TO i1 i2 l1 l2 (rawInt s.heap.objs.size) (n + 1) -> IsPair h' s.heap.objs.size x y ->
      (∀ c o, c ≠ z -> c ≠ TO -> c ≠ i1 -> c ≠ i2 -> s.heap.get? c = some o -> h'.get? c = some o) -> Q (some (.ref s.heap.objs.size)) { s with heap := h' }) :
    wpAny (model prog w) A (pyNext (.ref z)) Q E s := by
  have ty : s.TypeIs (.ref z) "zip" := ⟨_, Z.zz, rfl⟩
  unfold pyNext
  exact wpAny_bind (wpAny_attempt (wpAny_callSpecial?_slot (name := Str.ofString "__next__") ty F.slot_zip_next (wpAny_call_entry F.slot_zip_next ty F.entry_zip_next
      (zip_step D Z L1 L2 hx hy fun h' a b c => wpAny_pure (q h' a b c)) (F.args_zip_next_1 _))))
theorem zip_done {k1 k2 : Kd} {z TI TO i1 i2 l1 l2 : Addr} {n : Nat} {xs : List Value} {Q : Option Value -> Shared -> Prop} (hh : A.handled = none) (D : ZipNe z TI TO i1 i2) (Z : ZipAt s.heap k1 k2 z TI TO i1 i2 l1 l2 .none n)
    (L1 : ∀ h', (∀ b o, b ≠ z -> b ≠ TO -> b ≠ i1 -> b ≠ i2 -> s.heap.get? b = some o -> h'.get? b = some o) -> SeqIs k1 h' l1 xs) (hx : xs.length <= n)
    (q : ∀ h', (∀ c o, c ≠ z -> c ≠ TO -> c ≠ i1 -> c ≠ i2 -> s.heap.get? c = some o -> h'.get? c = some o) -> Q none { s with heap := h' }) : wpAny (model prog w) A (pyNext (.ref z)) Q E s := by
  have ty : s.TypeIs (.ref z) "zip" := ⟨_, Z.zz, rfl⟩
  obtain ⟨zz, ti, ⟨a, b, to⟩, a1, a2⟩ := Z
  unfold pyNext
  refine wpAny_bind (wpAny_attempt (wpAny_callSpecial?_slot (name := Str.ofString "__next__") ty F.slot_zip_next (wpAny_call_entry F.slot_zip_next ty F.entry_zip_next ?_ (F.args_zip_next_1 _))))
  show wpAny _ _ (field (Value.ref z) 2 >>= _) _ _ _
  refine wpAny_bind (wpAny_field zz rfl (x := Value.bool false) rfl (wpAny_bind (wpAny_field zz rfl (x := Value.ref TI) rfl (wpAny_bind (wpAny_seqItems ti rfl (wpAny_bind ?_))))))
  unfold Builtin.SmallTypes.ownedTupleIsFree
  refine wpAny_bind (wpAny_field zz rfl (x := Value.none) rfl (wpAny_pure ?_))
  simp only [if_true]
  refine wpAny_bind (wpAny_rule (wpAny_bind (wpAny_field zz rfl (x := Value.ref TO) rfl (wpAny_bind (wpAny_setField_rec zz (by simp) fun g1 z1 b1 => wpAny_bind ?_)))))
  replace z1 : IsZip g1 z TI TO .ellipsis := z1
  replace b1 : Heap.SameBut z s.heap g1 := b1
  simp only [List.zipIdx_cons, List.zipIdx_nil, List.forIn_cons, List.forIn_nil]
  have K1 : ∀ c o, c ≠ z -> c ≠ TO -> c ≠ i1 -> c ≠ i2 -> s.heap.get? c = some o -> g1.get? c = some o := fun c o h1 _ _ _ e => b1.extBut c o h1 e
  refine wpAny_bind (wpAny_bind (wpAny_onRaise (wpAny_bind (end_seq (s := { s with heap := g1 }) hh (a1.kept fun o e => b1.extBut _ o D.i1z e) (L1 g1 K1) hx fun g2 e b2 he => ?_))))
  replace b2 : Heap.ExtBut i1 g1 g2 := b2
  obtain ⟨oe, hoe, hce⟩ := he
  have z2 : IsZip g2 z TI TO .ellipsis := b2 _ _ D.i1z.symm z1
  have ez : e ≠ z := fun x => by subst x; rw [z2] at hoe; cases hoe; simp at hce
  refine wpAny_setField_rec z2 (by simp) fun g3 _ b3 => ?_
  replace b3 : Heap.SameBut z g2 g3 := b3
  refine wpAny_bind (wpAny_isInstance (T := "StopIteration") (b := true) ⟨oe, b3.extBut _ _ ez hoe, hce⟩ isSubtype_stop (wpAny_pure (q g3 fun c o h1 h2 h3 h4 x => b3.extBut _ _ h1 (b2 _ _ h3 (b1.extBut _ _ h1 x)))))
theorem zip_go {elts : List Expr} {x1 : Nat} {pos : Pos} {z TI TO T : Addr} {Q : Unit -> Shared -> Prop} (hz : IsZip s.heap z TI TO (rawInt T))
    (q : ∀ h', IsZip h' z TI TO .none -> Heap.SameBut z s.heap h' -> Q () { s with heap := h' }) : wpAny (model prog w) A (letOwnedTupleGo (.Tuple elts x1 pos) (.ref z) (.ref T)) Q E s := wpAny_letOwnedTupleGo_zip hz q
abbrev zp1 (k1 : Kd) (h : Heap) (l1 : Addr) : Heap := h.push { cls := .type (iterTy k1), data := .fields #[.ref l1, .int 0 0] }
abbrev zp2 (k1 k2 : Kd) (h : Heap) (l1 l2 : Addr) : Heap := (zp1 k1 h l1).push { cls := .type (iterTy k2), data := .fields #[.ref l2, .int 0 0] }
abbrev zp3 (k1 k2 : Kd) (h : Heap) (l1 l2 : Addr) : Heap := (zp2 k1 k2 h l1 l2).push { cls := .type "tuple", data := .seq #[.ref h.objs.size, .ref (zp1 k1 h l1).objs.size] }
abbrev zp4 (k1 k2 : Kd) (h : Heap) (l1 l2 : Addr) : Heap := (zp3 k1 k2 h l1 l2).push { cls := .type "tuple", data := .seq #[.none, .none] }
abbrev zp5 (k1 k2 : Kd) (h : Heap) (l1 l2 : Addr) : Heap := (zp4 k1 k2 h l1 l2).push { cls := .type "zip", data := .fields #[.none, .bool false, .bool false, .ref (zp2 k1 k2 h l1 l2).objs.size, .ref (zp3 k1 k2 h l1 l2).objs.size] }
theorem zip_new (k1 k2 : Kd) (l1 l2 : Addr) (xs ys : List Value) :
    Meets (Builtin.«zip.__new__» ⟨[.type "zip", .ref l1, .ref l2], []⟩) (fun _ R s => SeqIs k1 s.heap l1 xs /\ SeqIs k2 s.heap l2 ys /\
      R (.ok (.ret (.ref (zp4 k1 k2 s.heap l1 l2).objs.size))) { s with heap := zp5 k1 k2 s.heap l1 l2 }) :=
  .of_wp fun prog w A R s h => by
    obtain ⟨hp, g, d, tk, os⟩ := s
    obtain ⟨h1, h2, h⟩ := h
    have hsub := sub_zip
    have hL1 : SeqIs k1 (Shared.heap ⟨hp, g, d, tk, os⟩) l1 xs := h1
    have hL2 : SeqIs k2 (Shared.heap ⟨zp1 k1 hp l1, g, d, tk, os⟩) l2 ys := h2.kept fun o e => Heap.get?_push_of_some _ e
    wp_walk using iter_seq hL1, iter_seq hL2
    exact ⟨_, rfl, h⟩
theorem call_zip {k1 k2 : Kd} {l1 l2 : Addr} {xs ys : List Value} {Q : Value -> Shared -> Prop} (h1 : SeqIs k1 s.heap l1 xs) (h2 : SeqIs k2 s.heap l2 ys)
    (q : ∀ h', ZipAt h' k1 k2 (s.heap.objs.size + 4) (s.heap.objs.size + 2) (s.heap.objs.size + 3) s.heap.objs.size (s.heap.objs.size + 1) l1 l2 .none 0 ->
      (∀ c o, s.heap.get? c = some o -> h'.get? c = some o) -> Q (.ref (s.heap.objs.size + 4)) { s with heap := h' }) :
    wpAny (model prog w) A (call (.type "zip") [.ref l1, .ref l2]) Q E s := by
  refine callType_new F.called_zip (by decide) (F.typeCall_zip_2 _ _) (F.newCall_zip_2 _ _) (fun obj => F.args_object_init_3 obj _ _) F.entry_zip_new (zip_new k1 k2 l1 l2 xs ys) ⟨h1, h2, ?_⟩
  have z1 : (zp1 k1 s.heap l1).objs.size = s.heap.objs.size + 1 := Heap.size_push ..
  have z2 : (zp2 k1 k2 s.heap l1 l2).objs.size = s.heap.objs.size + 2 := by rw [Heap.size_push, z1]
  have z3 : (zp3 k1 k2 s.heap l1 l2).objs.size = s.heap.objs.size + 3 := by rw [Heap.size_push, z2]
  have z4 : (zp4 k1 k2 s.heap l1 l2).objs.size = s.heap.objs.size + 4 := by rw [Heap.size_push, z3]
  have u : ∀ {h : Heap} {o : Obj} {b : Addr} {v : Obj}, h.get? b = some v -> (h.push o).get? b = some v := fun e => Heap.get?_push_of_some _ e
  have g5 : (zp5 k1 k2 s.heap l1 l2).get? (zp4 k1 k2 s.heap l1 l2).objs.size = some _ := Heap.get?_push_size _ rfl
  have g4 : (zp5 k1 k2 s.heap l1 l2).get? (zp3 k1 k2 s.heap l1 l2).objs.size = some _ := u (Heap.get?_push_size _ rfl)
  have g3 : (zp5 k1 k2 s.heap l1 l2).get? (zp2 k1 k2 s.heap l1 l2).objs.size = some _ := u (u (Heap.get?_push_size _ rfl))
  have g2 : ItAt k2 (zp5 k1 k2 s.heap l1 l2) (zp1 k1 s.heap l1).objs.size l2 0 := (iter_at (k := k2) (h := zp1 k1 s.heap l1) (a := l2)).kept fun o e => u (u (u e))
  have g1 : ItAt k1 (zp5 k1 k2 s.heap l1 l2) s.heap.objs.size l1 0 := (iter_at (k := k1) (h := s.heap) (a := l1)).kept fun o e => u (u (u (u e)))
  show _ /\ _
  rw [z2, z3, z4] at g5
  rw [z1, z2] at g3
  rw [z3] at g4
  rw [z1] at g2
  rw [z4]
  exact ⟨⟨_, g5, rfl⟩, q _ ⟨g5, g3, ⟨_, _, g4⟩, g1, g2⟩ fun c o x => u (u (u (u (u x))))⟩
end
def ItZ (k1 k2 : Kd) (K : PySem.W.Frag) (a b : Addr) : It :=
  ⟨fun i H => ∃ xs ys x y, SqK k1 K H a xs /\ SqK k2 K H b ys /\ xs[i]? = some x /\ ys[i]? = some y,
   fun i H v H' => ∃ p x y, H p = none /\ v = .ref p /\ (∀ xs, SqK k1 K H a xs -> xs[i]? = some x) /\ (∀ ys, SqK k2 K H b ys -> ys[i]? = some y) /\ H' = upd H p (.tup [x, y]),
   fun i H => ∃ xs, SqK k1 K H a xs /\ xs.length <= i⟩
theorem Inv.seq_ne {X : Cx} {pins : List (Addr × Obj)} {σ : St} {H : Hp} {s : Shared} (I : Inv X pins σ H s) {k : Kd} {a b : Addr} {xs : List V} (h : SqK k X.K H a xs) (f : FpOk X pins H b) : a ≠ b := by
  rintro rfl
  have hn := f.1
  have young : ∀ o, X.K.lookup a = some o -> False := fun o e => by
    have e1 := I.mod.kin a o e
    rcases f.2.2.2.1 with z | z
    · exact I.ok.noex a o e1 z
    · exact absurd (Nat.lt_of_lt_of_le (Heap.lt_size e1) (Nat.le_trans I.ok.bsz z)) (Nat.lt_irrefl _)
  cases k with
  | l =>
    rcases h with h | ⟨o, _, _, e, _⟩
    · rcases h with h | ⟨o, h⟩ <;> (rw [hn] at h; cases h)
    · exact young o e
  | t =>
    rcases h with h | ⟨o, _, _, e, _⟩
    · rcases h with h | ⟨o, h⟩ <;> (rw [hn] at h; cases h)
    · exact young o e
theorem turn_zip {P : Program} {w : World} {K : PySem.W.Frag} {elts : List Expr} {x1 : Nat} {tpos : Pos} (k1 k2 : Kd) (a b z TI TO i1 i2 : Addr) (D : ZipNe z TI TO i1 i2) :
    Turn P w K (.Tuple elts x1 tpos) (ItZ k1 k2 K a b) [z, TI, TO, i1, i2] z (fun i h => ZipAt h k1 k2 z TI TO i1 i2 a b .none i) where
  mem := by simp
  obj := fun i h st c hc => by
    obtain ⟨zz, ti, ⟨u, v, to⟩, a1, a2⟩ := st
    simp at hc
    rcases hc with rfl | rfl | rfl | rfl | rfl
    · exact ⟨_, zz, fun v z => by cases z⟩
    · exact ⟨_, ti, fun v z => by cases z⟩
    · exact ⟨_, to, fun v z => by cases z⟩
    · exact a1.obj
    · exact a2.obj
  keep := fun i h h' st kk => by
    obtain ⟨zz, ti, ⟨u, v, to⟩, a1, a2⟩ := st
    exact ⟨kk z (by simp) _ zz, kk TI (by simp) _ ti, ⟨u, v, kk TO (by simp) _ to⟩, a1.kept fun o e => kk i1 (by simp) o e, a2.kept fun o e => kk i2 (by simp) o e⟩
  item := by
    intro X hP hw hK hc i pins s σ H E I hf st hg
    subst hP hw hK
    obtain ⟨xs, ys, x, y, hq1, hq2, hx, hy⟩ := hg
    obtain ⟨its1, r1, s1, _⟩ := I.seq hq1
    obtain ⟨its2, r2, s2, _⟩ := I.seq hq2
    obtain ⟨u1, e1, ru1⟩ := r1.get hx
    obtain ⟨u2, e2, ru2⟩ := r2.get hy
    have nz := hf z (by simp)
    have nO := hf TO (by simp)
    have n1 := hf i1 (by simp)
    have n2 := hf i2 (by simp)
    refine zip_item D st (fun h' kk => s1.kept fun o e => kk a o (I.seq_ne hq1 nz) (I.seq_ne hq1 nO) (I.seq_ne hq1 n1) (I.seq_ne hq1 n2) e)
      (fun h' kk => s2.kept fun o e => kk b o (I.seq_ne hq2 nz) (I.seq_ne hq2 nO) (I.seq_ne hq2 n1) (I.seq_ne hq2 n2) e) e1 e2 fun h' c1 c2 c3 => ⟨_, rfl, ?_⟩
    refine zip_go (s := { s with heap := h' }) c1.zz fun h2 d1 d2 => ?_
    replace d2 : Heap.SameBut z h' h2 := d2
    have zl : z < s.heap.objs.size := Heap.lt_size st.zz
    have lt : ∀ c ∈ [z, TI, TO, i1, i2], c < s.heap.objs.size := fun c hc => by
      obtain ⟨zz, ti, ⟨u, v, to⟩, a1, a2⟩ := st
      simp at hc
      rcases hc with rfl | rfl | rfl | rfl | rfl
      · exact zl
      · exact Heap.lt_size ti
      · exact Heap.lt_size to
      · obtain ⟨o, e, _⟩ := a1.obj; exact Heap.lt_size e
      · obtain ⟨o, e, _⟩ := a2.obj; exact Heap.lt_size e
    have kk : ∀ c o, c ∉ [z, TI, TO, i1, i2] -> s.heap.get? c = some o -> h2.get? c = some o := fun c o hc q => by
      simp at hc
      exact d2.extBut c o hc.1 (c3 c o hc.1 hc.2.2.1 hc.2.2.2.1 hc.2.2.2.2 q)
    have tt : IsPair h2 s.heap.objs.size u1 u2 := d2.extBut _ _ (Nat.ne_of_gt zl) c2
    have fr : H s.heap.objs.size = none := I.hok.fresh (Nat.le_refl _)
    refine ⟨.ref s.heap.objs.size, upd H s.heap.objs.size (.tup [x, y]), I.turnNew (t' := s.toks) hf kk (Nat.le_refl _) ?_, rfl, ⟨_, x, y, fr, rfl, fun vs hv => ?_, fun vs hv => ?_, rfl⟩, ?_, fun c hc => ?_⟩
    · exact ⟨by show 2 <= sizeLine; decide, [u1, u2], .cons ru1 (.cons ru2 .nil), ⟨_, tt, rfl, 0, rfl⟩⟩
    · rw [I.seq_inj hv hq1]; exact hx
    · rw [I.seq_inj hv hq2]; exact hy
    · obtain ⟨zz, ti, ⟨u, v, to⟩, a1, a2⟩ := c1
      exact ⟨d1, d2.extBut _ _ D.TIz ti, ⟨u, v, d2.extBut _ _ D.TOz to⟩, a1.kept fun o e => d2.extBut _ o D.i1z e, a2.kept fun o e => d2.extBut _ o D.i2z e⟩
    · rw [upd_ne (Nat.ne_of_lt (lt c hc))]
      exact (hf c hc).1
  done := by
    intro X hP hw hK hc i pins s σ H E I hf st hg
    subst hP hw hK
    obtain ⟨xs, hq1, hx⟩ := hg
    obtain ⟨its1, r1, s1, _⟩ := I.seq hq1
    have nz := hf z (by simp)
    have nO := hf TO (by simp)
    have n1 := hf i1 (by simp)
    have n2 := hf i2 (by simp)
    exact zip_done (I.ok.hd hc) D st (fun h' kk => s1.kept fun o e => kk a o (I.seq_ne hq1 nz) (I.seq_ne hq1 nO) (I.seq_ne hq1 n1) (I.seq_ne hq1 n2) e) (by rw [<- r1.length]; exact hx)
      fun h' kk => ⟨rfl, I.turnM (t' := s.toks) hf fun c o hc q => by simp at hc; exact kk c o hc.1 hc.2.2.1 hc.2.2.2.1 hc.2.2.2.2 q⟩
  self := fun _ _ _ _ _ st h => wpAny_pyIter_zip st.zz h
theorem boot_zip' : bootBuiltins "zip" = some (.type "zip") := by first | rfl | decide +kernel
theorem zipNe (n : Nat) : ZipNe (n + 4) (n + 2) (n + 3) n (n + 1) := by
  refine ⟨?_, ?_, ?_, ?_, ?_, ?_, ?_, ?_, ?_, ?_⟩ <;> (intro z; have z' : (_ : Nat) = _ := z; omega)
structure Src (K : PySem.W.Frag) (mg : Str -> Option Value) (x : Str) (st : Stmt) (ps : List Str) : Prop where
  ex : ∃ f fd, Fun K x x st f fd /\ Binds K fd ps [] /\ mg x = some (.ref f)
structure Def (P : Program) (w : World) (K : PySem.W.Frag) (mg : Str -> Option Value) (base : Heap) (k : Nat) (x : Str) (ps : List Str) (sp : Sp) : Prop where
  ex : ∃ f fd, FnOk P w K mg base CX0 k f fd ps sp /\ Binds K fd ps [] /\ mg x = some (.ref f) /\ PySem.W.keepIn K (.ref f) = true
theorem Src.def {P : Program} {w : World} {K : PySem.W.Frag} {mg : Str -> Option Value} {base : Heap} {k : Nat} {x : Str} {st : Stmt} {N ps : List Str} {sp : Sp} (S : Src K mg x st ps) (sc : FnScope N ps (defScope st)) (len : ∀ vs H Q E, sp vs H Q E -> vs.length = ps.length)
    (hbody : ∀ (f : Addr) (cdv : Value) (A : Around) (outer : List Env) (s : Shared) (H : Hp) (vs : List V) (Q : VK) (E : XK), Room k (A.deeper (envOfC x (defScope st) s.heap.objs.size f cdv)) -> sp vs H Q E ->
      ∃ t, PSs (cxOf CX0 P w K mg base N x (defScope st) f cdv A outer s H E).nox (defBody st) t /\ t { nx := fun _ H' => Q .non H', rt := Q } (start N vs) H) : Def P w K mg base (k + 1) x ps sp := by
  obtain ⟨f, fd, F, b, m⟩ := S.ex
  exact ⟨f, fd, F.ok sc len (hbody f), b, m, F.kp⟩
theorem pe_def {X : Cx} {k : Nat} {x : Str} {ps : List Str} {sp : Sp} {e : Expr} {es : List Expr} {t : TA} {p pos : Pos} (D : Def X.prog X.w X.K X.mg X.base k x ps sp) (hr : Room k X.A) (hg : Gl X x) (ha : PA X (e :: es) t)
    (hdb : (x == ("__debug__" : Str)) = false := by decide) (he : starEach (e :: es) X.env = (false, eval e X.env) :: starEach es X.env := by rfl) (hpl : (backTo pos (starEach es X.env)).any (·.1) = false := by rfl) :
    PE X (.Call (.Name x p) (e :: es) [] pos) (tCall sp [] E0 t) := by
  obtain ⟨f, fd, F, b, m, kp⟩ := D.ex
  exact pe_call F hr hg m kp b .nil pass0 ha hdb he hpl
theorem Same.tup {K : PySem.W.Frag} {H H' : Hp} {a : Addr} {xs : List V} (e : Same H H') (h : SqT K H a xs) : SqT K H' a xs := by
  rcases h with (h | ⟨o, h⟩) | h
  · exact .inl (.inl (e _ _ h))
  · exact .inl (.inr ⟨o, e _ _ h⟩)
  · exact .inr h
theorem Same.seqK {K : PySem.W.Frag} {H H' : Hp} {k : Kd} {a : Addr} {xs : List V} (e : Same H H') (h : SqK k K H a xs) : SqK k K H' a xs := by
  cases k with
  | l => exact e.seq h
  | t => exact e.tup h
theorem Same.new {H : Hp} {p : Addr} {o : HO} (h : H p = none) : Same H (upd H p o) := fun b u e => by rw [upd_ne (ne_of_none e h)]; exact e
theorem Paired.at {α β : Type} {F : α -> β -> Prop} : ∀ {l₁ : List α} {l₂ : List β}, Paired F l₁ l₂ -> ∀ {i : Nat} {a : α}, l₁[i]? = some a -> ∃ b, l₂[i]? = some b /\ F a b
  | _, _, .nil, i, a, e => by simp at e
  | _, _, .cons r t, 0, a, e => by simp at e; subst e; exact ⟨_, rfl, r⟩
  | _, _, .cons r t, i + 1, a, e => by
    obtain ⟨b, h1, h2⟩ := Paired.at t (i := i) (by simpa using e)
    exact ⟨b, by simpa using h1, h2⟩
theorem Paired.snoc {α β : Type} {F : α -> β -> Prop} : ∀ {l₁ : List α} {l₂ : List β}, Paired F l₁ l₂ -> ∀ {a : α} {b : β}, F a b -> Paired F (l₁ ++ [a]) (l₂ ++ [b])
  | _, _, .nil, _, _, h => .cons h .nil
  | _, _, .cons r t, _, _, h => .cons r (Paired.snoc t h)
theorem take_succ_of {α : Type} {l : List α} {i : Nat} {a : α} (h : l[i]? = some a) : l.take (i + 1) = l.take i ++ [a] := by
  rw [List.take_add_one, h]; rfl
def ItK (k : Kd) (K : PySem.W.Frag) (a : Addr) : It := match k with | .l => Itl K a | .t => Itt K a
def iSeq (k : Kd) (K : PySem.W.Frag) (tl : TE) : TI := fun σ H R => tl σ H fun x H1 => ∃ a, x = .ref a /\ (∃ xs, SqK k K H1 a xs) /\ R (ItK k K a) H1
theorem pi_seq {X : Cx} {tg : Expr} (k : Kd) {l : Expr} {tl : TE} (hl : PE X l tl) : PI X tg l (iSeq k X.K tl) := by
  cases k with
  | l => exact pi_list hl
  | t => exact pi_tup hl
theorem itk_go {k : Kd} {K : PySem.W.Frag} {H : Hp} {a : Addr} {xs : List V} {i : Nat} (h : SqK k K H a xs) (hi : i < xs.length) : (ItK k K a).go i H := by
  cases k with
  | l => exact ⟨xs, xs[i], h, by simp [hi]⟩
  | t => exact ⟨xs, xs[i], h, by simp [hi]⟩
theorem itk_stop {k : Kd} {K : PySem.W.Frag} {H : Hp} {a : Addr} {xs : List V} {i : Nat} (h : SqK k K H a xs) (hi : xs.length <= i) : (ItK k K a).stop i H := by
  cases k with
  | l => exact ⟨xs, h, hi⟩
  | t => exact ⟨xs, h, hi⟩
theorem itk_yld {k : Kd} {K : PySem.W.Frag} {H H' : Hp} {a : Addr} {xs : List V} {i : Nat} {x : V} (h : SqK k K H a xs) (y : (ItK k K a).yld i H x H') : H' = H /\ xs[i]? = some x := by
  cases k with
  | l => exact ⟨y.1, y.2 xs h⟩
  | t => exact ⟨y.1, y.2 xs h⟩
theorem comp_seq {k : Kd} {K : PySem.W.Frag} {a : Addr} {xs : List V} {g : TG} {tt : TT} {te : TE} {fin : List V -> Hp -> Prop} {σ : St} {H : Hp} (S : St -> Prop) (Pv : Nat -> List V -> Hp -> Prop) (hσ : S σ) (h0 : Pv 0 [] H) (hz : xs.length < sizeLine)
    (hl : ∀ i ys H, i <= xs.length -> Pv i ys H -> SqK k K H a xs)
    (hs : ∀ (i : Nat) (x : V) (ys : List V) (σ : St) (H : Hp) (N : List V -> St -> Hp -> Prop), xs[i]? = some x -> S σ -> Pv i ys H -> (∀ ys' σ' H', S σ' -> Pv (i + 1) ys' H' -> ys'.length <= ys.length + 1 -> N ys' σ' H') ->
      g x σ H fun σ2 H2 => tt σ2 H2 fun b H3 => if b = true then te σ2 H3 fun y H4 => N (ys ++ [y]) σ2 H4 else N ys σ2 H3)
    (hd : ∀ ys H, Pv xs.length ys H -> fin ys H) : ∃ W, CompW (ItK k K a) g tt te fin W /\ ∃ m, W 0 m [] σ H := by
  refine ⟨fun i m ys σ H => m = xs.length - i /\ i <= xs.length /\ ys.length <= i /\ S σ /\ Pv i ys H, ?_, xs.length, by simp, Nat.zero_le _, Nat.le_refl _, hσ, h0⟩
  rintro i m ys σ H ⟨rfl, hi, hy, hS, p⟩
  have q := hl i ys H hi p
  by_cases hlt : i < xs.length
  · refine .inr ⟨itk_go q hlt, by lia, fun x H' y => ?_⟩
    obtain ⟨e, hy2⟩ := itk_yld q y
    subst e
    have := hs i x ys σ H' (fun ys' σ' H'' => ∃ m', m' < xs.length - i /\ m' = xs.length - (i + 1) /\ i + 1 <= xs.length /\ ys'.length <= i + 1 /\ S σ' /\ Pv (i + 1) ys' H'') hy2 hS p (fun ys' σ' H'' a b c => ⟨_, by lia, rfl, hlt, by lia, a, b⟩)
    exact this
  · have e : i = xs.length := by lia
    subst e
    exact .inl ⟨itk_stop q (Nat.le_refl _), by lia, hd ys H p⟩
theorem units66 {A : Around} {k : Nat} (hr : Room k A) : A.units + 66 < cLine := by have := hr.un; lia
def compB (kinds : List (Str × NameKind)) (N : List Str) (scope : Scope) (N' : List Str) (fr : List (Option Nat)) : Bool :=
  (scope.kind == .function) && (scope.names.all fun y => y.2 != .cell) && (scope.names.all fun y => y.2 != .local || scope.names.lookup y.1 == some .local) &&
  (scope.names.all fun y => y.2 != .free || (kinds.lookup y.1 == some .cell || kinds.lookup y.1 == some .free)) && frOk N kinds scope.names N' fr
theorem compOk_of {X : Cx} {scope : Scope} {N' : List Str} {fr : List (Option Nat)} (h : compB X.env.scope.names X.N scope N' fr = true) : CompOk X scope N' fr := by
  unfold compB at h
  simp only [Bool.and_eq_true, List.all_eq_true] at h
  obtain ⟨⟨⟨⟨h1, h2⟩, h3⟩, h4⟩, h5⟩ := h
  refine ⟨by simpa using h1, fun y hy => by simpa using h2 y hy, fun y hy e => ?_, fun y hy e => ?_, h5⟩
  · have := h3 y hy
    rw [e] at this
    simpa using this
  · have := h4 y hy
    rw [e] at this
    simpa [Env.kindOf] using this
theorem yesT {σ : St} {H : Hp} {A B : Hp -> Prop} (h : A H) : tYes σ H fun b H3 => if b = true then A H3 else B H3 := by
  show if true = true then A H else B H
  exact iteT h
section
open PySem.SeqAt
open PySem.AutoSeq1 (wpAny_loadPart')
open PySem.MeetsSeq PySem.MeetsSeq2 PySem.MeetsSeq3
end
section
variable {X : Cx}
def rCat0 (K : PySem.W.Frag) : R2 := fun x y H Q => ∃ a b ys, x = .ref a /\ y = .ref b /\ SqT K H a [] /\ SqT K H b ys /\ Q (.ref b) H
theorem op_cat0 : OpR X (binaryOp .Add) (rCat0 X.K) := by
  intro pins s σ H x y v u Q I rx ry h
  obtain ⟨a, b, ys, rfl, rfl, ha, hb, k⟩ := h
  cases (show v = Value.ref a from rx)
  cases (show u = Value.ref b from ry)
  obtain ⟨its, r1, t1, _⟩ := I.tuple ha
  obtain ⟨its2, r2, t2, _⟩ := I.tuple hb
  rw [Vals.zero r1] at t1
  obtain ⟨⟨cls, dd, data, sl⟩, ho, hc, n, hd⟩ := id t1
  obtain ⟨⟨cls2, dd2, data2, sl2⟩, ho2, hc2, n2, hd2⟩ := id t2
  simp only at hc hd hc2 hd2
  subst hc hd hc2 hd2
  exact concat_meets ⟨_, ho, rfl⟩ ⟨_, ho2, rfl⟩ noFill_tuple_add seq_tuple_add PySem.F.slot_tuple_add PySem.F.entry_tuple_add (PySem.F.args_tuple_add_2 _ _) (tuple_addW0 a b _ its2.toArray n n2 dd dd2 sl sl2 (by simp)) ⟨ho, ho2, ⟨.ref b, H, I, rfl, k⟩⟩
end
theorem comp_range {lo : Int} {n : Nat} {g : TG} {tt : TT} {te : TE} {fin : List V -> Hp -> Prop} {σ : St} {H : Hp} (S : St -> Prop) (Pv : Nat -> List V -> Hp -> Prop) (hσ : S σ) (h0 : Pv 0 [] H) (hz : n < sizeLine)
    (hs : ∀ (i : Nat) (ys : List V) (σ : St) (H : Hp) (N : List V -> St -> Hp -> Prop), i < n -> S σ -> Pv i ys H -> (∀ ys' σ' H', S σ' -> Pv (i + 1) ys' H' -> ys'.length <= ys.length + 1 -> N ys' σ' H') ->
      g (.int (lo + i)) σ H fun σ2 H2 => tt σ2 H2 fun b H3 => if b = true then te σ2 H3 fun y H4 => N (ys ++ [y]) σ2 H4 else N ys σ2 H3)
    (hd : ∀ ys H, Pv n ys H -> fin ys H) : ∃ W, CompW (Itr lo n) g tt te fin W /\ ∃ m, W 0 m [] σ H := by
  refine ⟨fun i m ys σ H => m = n - i /\ i <= n /\ ys.length <= i /\ S σ /\ Pv i ys H, ?_, n, by simp, Nat.zero_le _, Nat.le_refl _, hσ, h0⟩
  rintro i m ys σ H ⟨rfl, hi, hy, hS, p⟩
  by_cases hlt : i < n
  · refine .inr ⟨hlt, by omega, fun x H' y => ?_⟩
    obtain ⟨e, y⟩ := y
    subst e y
    exact hs i ys σ _ (fun ys' σ' H'' => ∃ m', m' < n - i /\ m' = n - (i + 1) /\ i + 1 <= n /\ ys'.length <= i + 1 /\ S σ' /\ Pv (i + 1) ys' H'') hlt hS p (fun ys' σ' H'' a b c => ⟨_, by omega, rfl, hlt, by omega, a, b⟩)
  · have e : i = n := by omega
    subst e
    exact .inl ⟨Nat.le_refl _, by omega, hd ys H p⟩
def splitA (c : Nat) : List Nat -> List Nat -> List (List Nat)
  | cur, [] => [cur]
  | cur, x :: xs => if x = c then cur :: splitA c [] xs else splitA c (cur ++ [x]) xs
def cutsAt (c : Nat) : Nat -> List Nat -> List Nat
  | _, [] => []
  | k, x :: xs => if x = c then k :: cutsAt c (k + 1) xs else cutsAt c (k + 1) xs
theorem ex_eq (S : Array Nat) (a b : Nat) : (S.extract a b).toList = (S.toList.drop a).take (b - a) := by simp [Array.toList_extract, List.extract]
theorem parts_eq (c : Nat) (S : Array Nat) : ∀ (l pre : List Nat) (a : Nat) (cur : List Nat), S.toList = pre ++ l -> a <= pre.length -> (S.toList.drop a).take (pre.length - a) = cur ->
    ((a :: (cutsAt c pre.length l).map (· + 1)).zip (cutsAt c pre.length l ++ [S.size])).map (fun p => (S.extract p.1 p.2).toList) = splitA c cur l
  | [], pre, a, cur, hS, ha, hc => by
    have hz : S.size = pre.length := by rw [<- Array.length_toList, hS]; simp
    show [(S.extract a S.size).toList] = [cur]
    rw [ex_eq, hz, hc]
  | x :: xs, pre, a, cur, hS, ha, hc => by
    have hS' : S.toList = (pre ++ [x]) ++ xs := by rw [hS]; simp
    have hl : (pre ++ [x]).length = pre.length + 1 := by simp
    by_cases hx : x = c
    · have e1 : cutsAt c pre.length (x :: xs) = pre.length :: cutsAt c (pre.length + 1) xs := by show (if x = c then _ else _) = _; rw [if_pos hx]
      have e2 : splitA c cur (x :: xs) = cur :: splitA c [] xs := by show (if x = c then _ else _) = _; rw [if_pos hx]
      rw [e1, e2]
      have ih := parts_eq c S xs (pre ++ [x]) (pre.length + 1) [] hS' (by simp) (by rw [hl]; simp)
      rw [hl] at ih
      show (S.extract a pre.length).toList :: _ = _
      rw [ex_eq, hc]
      congr 1
    · have e1 : cutsAt c pre.length (x :: xs) = cutsAt c (pre.length + 1) xs := by show (if x = c then _ else _) = _; rw [if_neg hx]
      have e2 : splitA c cur (x :: xs) = splitA c (cur ++ [x]) xs := by show (if x = c then _ else _) = _; rw [if_neg hx]
      rw [e1, e2]
      have hc' : (S.toList.drop a).take ((pre ++ [x]).length - a) = cur ++ [x] := by
        rw [hl, show pre.length + 1 - a = (pre.length - a) + 1 by omega, List.take_add_one, hc]
        congr 1
        rw [List.getElem?_drop, show a + (pre.length - a) = pre.length by omega, hS]
        simp
      have ih := parts_eq c S xs (pre ++ [x]) a (cur ++ [x]) hS' (by omega) hc'
      rw [hl] at ih
      exact ih
theorem splitA_app {c : Nat} : ∀ {p : List Nat} {cur r : List Nat}, c ∉ p -> splitA c cur (p ++ c :: r) = (cur ++ p) :: splitA c [] r
  | [], cur, r, _ => by
    show (if c = c then cur :: splitA c [] r else _) = _
    rw [if_pos rfl, List.append_nil]
  | x :: xs, cur, r, h => by
    have hx : x ≠ c := fun e => h (by rw [e]; exact List.mem_cons_self)
    show (if x = c then _ else splitA c (cur ++ [x]) (xs ++ c :: r)) = _
    rw [if_neg hx, splitA_app fun e => h (List.mem_cons_of_mem _ e)]
    simp
theorem splitA_one {c : Nat} : ∀ {p : List Nat} {cur : List Nat}, c ∉ p -> splitA c cur p = [cur ++ p]
  | [], cur, _ => by show [cur] = _; simp
  | x :: xs, cur, h => by
    have hx : x ≠ c := fun e => h (by rw [e]; exact List.mem_cons_self)
    show (if x = c then _ else splitA c (cur ++ [x]) xs) = _
    rw [if_neg hx, splitA_one fun e => h (List.mem_cons_of_mem _ e)]
    simp
def glue (c : Nat) : List (List Nat) -> List Nat
  | [] => []
  | [p] => p
  | p :: q :: r => p ++ c :: glue c (q :: r)
theorem splitA_glue {c : Nat} : ∀ {ps : List (List Nat)}, ps ≠ [] -> (∀ p ∈ ps, c ∉ p) -> splitA c [] (glue c ps) = ps
  | [], h, _ => absurd rfl h
  | [p], _, h => by
    show splitA c [] p = _
    rw [splitA_one (h p List.mem_cons_self)]
    rfl
  | p :: q :: r, _, h => by
    show splitA c [] (p ++ c :: glue c (q :: r)) = _
    rw [splitA_app (h p List.mem_cons_self), splitA_glue (by simp) fun x hx => h x (List.mem_cons_of_mem _ hx)]
    rfl
theorem sub_one (x : Str) (c i : Nat) : Builtin.Str.subAt x ⟨#[c]⟩ i = (x.cps.toList[i]? == some c) := by
  unfold Builtin.Str.subAt
  show (x.cps.extract i (i + 1) == #[c]) = _
  rw [Bool.eq_iff_iff, beq_iff_eq, beq_iff_eq]
  constructor
  · intro h
    have h2 := congrArg Array.toList h
    rw [ex_eq, show i + 1 - i = 1 by omega] at h2
    have h3 : ((x.cps.toList.drop i).take 1)[0]? = some c := by rw [h2]; rfl
    rw [List.getElem?_take_of_lt (by decide), List.getElem?_drop] at h3
    simpa using h3
  · intro h
    apply Array.toList_inj.mp
    rw [ex_eq, show i + 1 - i = 1 by omega]
    apply List.ext_getElem?
    intro j
    cases j with
    | zero => rw [List.getElem?_take_of_lt (by decide), List.getElem?_drop]; simpa using h
    | succ j => rw [List.getElem?_take_eq_none (by omega)]; simp
theorem occ_from (x : Str) (c : Nat) : ∀ (l : List Nat) (k : Nat) (acc : Array Nat) (free : Nat), x.cps.toList.drop k = l -> k + l.length = x.length -> acc.size <= k -> free <= k ->
    (forIn (List.range' k (l.length + 1)) (acc, free) (StrLaws.occBody x ⟨#[c]⟩ x.length (x.length + 1))).run.fst.toList = acc.toList ++ cutsAt c k l
  | [], k, acc, free, hd, hl, ha, hf => by
    have hk : ¬ (k + (⟨#[c]⟩ : Str).length <= x.length) := by show ¬ (k + 1 <= x.length); simp at hl; omega
    rw [show List.range' k (([] : List Nat).length + 1) = [k] from rfl]
    rw [List.forIn_cons]
    unfold StrLaws.occBody
    rw [if_neg (fun h => hk h.1.2)]
    simp [cutsAt]
  | y :: ys, k, acc, free, hd, hl, ha, hf => by
    have hy : x.cps.toList[k]? = some y := by
      have := congrArg (fun l => l[0]?) hd
      simpa [List.getElem?_drop] using this
    have hd' : x.cps.toList.drop (k + 1) = ys := by
      have := congrArg List.tail hd
      simpa [List.tail_drop] using this
    have hl' : k + 1 + ys.length = x.length := by simp at hl; omega
    rw [show List.range' k ((y :: ys).length + 1) = k :: List.range' (k + 1) (ys.length + 1) from rfl]
    rw [List.forIn_cons]
    have hlen : k + (⟨#[c]⟩ : Str).length <= x.length := by show k + 1 <= x.length; omega
    by_cases e : y = c
    · have hb : StrLaws.occBody x ⟨#[c]⟩ x.length (x.length + 1) k (acc, free) = pure (ForInStep.yield (acc.push k, k + 1)) := by
        unfold StrLaws.occBody
        rw [if_pos ⟨⟨⟨by show acc.size < _; omega, hf⟩, hlen⟩, by rw [sub_one, hy, e]; simp⟩]
        rfl
      rw [hb]
      have ih := occ_from x c ys (k + 1) (acc.push k) (k + 1) hd' hl' (by simp; omega) (Nat.le_refl _)
      have e1 : cutsAt c k (y :: ys) = k :: cutsAt c (k + 1) ys := by show (if y = c then _ else _) = _; rw [if_pos e]
      rw [e1]
      refine Eq.trans ih ?_
      simp
    · have hb : StrLaws.occBody x ⟨#[c]⟩ x.length (x.length + 1) k (acc, free) = pure (ForInStep.yield (acc, free)) := by
        unfold StrLaws.occBody
        rw [if_neg (fun h => by have := h.2; rw [sub_one, hy] at this; simp at this; exact e this)]
      rw [hb]
      have ih := occ_from x c ys (k + 1) acc free hd' hl' (by omega) (by omega)
      have e1 : cutsAt c k (y :: ys) = cutsAt c (k + 1) ys := by show (if y = c then _ else _) = _; rw [if_neg e]
      rw [e1]
      exact ih
theorem occ_cuts (x : Str) (c : Nat) : Builtin.Str.occurrences x ⟨#[c]⟩ 0 x.length (x.length + 1) = cutsAt c 0 x.cps.toList := by
  rw [StrLaws.occ_eq]
  have hl : 0 + x.cps.toList.length = x.length := by show 0 + x.cps.toList.length = x.cps.size; simp
  have h := occ_from x c x.cps.toList 0 #[] 0 (by simp) hl (Nat.le_refl _) (Nat.le_refl _)
  have e : x.cps.toList.length + 1 = x.length + 1 - 0 := by omega
  rw [e] at h
  simpa using h
def mkS (l : List Nat) : Str := ⟨l.toArray⟩
theorem mkS_cps (x : Str) : mkS x.cps.toList = x := by cases x; rfl
theorem parts_cuts (x : Str) (c : Nat) : Builtin.Str.partsBetween x (cutsAt c 0 x.cps.toList) 1 = (splitA c [] x.cps.toList).map mkS := by
  have h := parts_eq c x.cps x.cps.toList [] 0 [] (by simp) (Nat.le_refl _) rfl
  rw [<- h]
  unfold Builtin.Str.partsBetween
  simp only [List.map_map]
  apply List.map_congr_left
  rintro ⟨i, j⟩ _
  show (⟨x.cps.extract i j⟩ : Str) = mkS (x.cps.extract i j).toList
  exact (mkS_cps ⟨x.cps.extract i j⟩).symm
theorem kind_ge (x : Str) : 1 <= Builtin.Str.strKind x := by
  unfold Builtin.Str.strKind
  split
  · exact Nat.le_refl _
  · split <;> decide
theorem kind_one {c : Nat} (h : c < 256) : Builtin.Str.strKind ⟨#[c]⟩ = 1 := by
  unfold Builtin.Str.strKind
  rw [if_pos (by simp [h])]
theorem strs_vals : ∀ (l : List (Str × Tok)), Vals (l.map fun p => V.str p.1) (strValues l)
  | [] => .nil
  | (x, t) :: r => .cons ⟨t, rfl⟩ (strs_vals r)
section
variable {X : Cx}
def rSplit : V -> List V -> Hp -> VK -> Prop := fun x vs H Q => ∃ (z : Str) (c : Nat), x = .str z /\ vs = [.str ⟨#[c]⟩] /\ c < 256 /\ z.length < 1000 /\ ∀ p, H p = none -> Q (.ref p) (upd H p (.lst ((splitA c [] z.cps.toList).map fun l => V.str (mkS l))))
theorem splitA_len (c : Nat) : ∀ (l cur : List Nat), (splitA c cur l).length <= l.length + 1
  | [], cur => Nat.le_refl _
  | x :: xs, cur => by
    show (if x = c then cur :: splitA c [] xs else splitA c (cur ++ [x]) xs).length <= xs.length + 1 + 1
    split
    · simp; exact splitA_len c xs []
    · exact Nat.le_trans (splitA_len c xs _) (Nat.le_succ _)
theorem mt_split : MtR X "str.split" rSplit := by
  intro pins s σ H x xs v us Q I rx r h
  obtain ⟨z, c, rfl, rfl, hc, hz, q⟩ := h
  obtain ⟨t, rfl⟩ := rx
  obtain ⟨u, rfl, ru⟩ := Vals.one r
  obtain ⟨t', rfl⟩ := ru
  have hzl : z.cps.toList.length = z.length := by show _ = z.cps.size; simp
  have zl : z.length <= sizeLine := Nat.le_trans (Nat.le_of_lt hz) (by decide)
  have hn : (splitA c [] z.cps.toList).length <= sizeLine := Nat.le_trans (splitA_len c _ _) (by rw [hzl]; exact Nat.le_trans (show z.length + 1 <= 1000 by omega) (by decide))
  have fr : H s.heap.objs.size = none := I.hok.fresh (Nat.le_refl _)
  have fin : ∀ (l : List (Str × Tok)) (tk : Nat), l.map (·.1) = (splitA c [] z.cps.toList).map mkS -> EP X pins σ Q (.ref s.heap.objs.size) { s with heap := s.heap.push { cls := .type "list", data := .seq (strValues l).toArray }, toks := tk } := fun l tk e => by
    have el : (l.map fun p => V.str p.1) = (splitA c [] z.cps.toList).map fun l => V.str (mkS l) := by
      have := congrArg (List.map V.str) e
      simpa [List.map_map, Function.comp_def] using this
    have rv := strs_vals l
    rw [el] at rv
    refine ⟨.ref s.heap.objs.size, upd H s.heap.objs.size (.lst ((splitA c [] z.cps.toList).map fun l => V.str (mkS l))), I.laid (fun b o e => Heap.get?_push_of_some _ e) (Nat.le_refl _) ?_, rfl, q _ fr⟩
    exact ⟨by rw [List.length_map]; exact hn, _, 0, rv, Heap.get?_push_size _ rfl⟩
  have e0 : Builtin.Str.occurrences z ⟨#[c]⟩ 0 z.length (z.length + 1) = cutsAt c 0 z.cps.toList := occ_cuts z c
  have e1 := parts_cuts z c
  by_cases h1 : (decide (z.length < (⟨#[c]⟩ : Str).length) || decide (Builtin.Str.strKind z < Builtin.Str.strKind ⟨#[c]⟩)) = true
  · have zn : z.cps.toList = [] := by
      rw [Bool.or_eq_true, decide_eq_true_eq, decide_eq_true_eq, kind_one hc] at h1
      rcases h1 with h1 | h1
      · have : z.length < 1 := h1
        exact List.eq_nil_of_length_eq_zero (by omega)
      · exact absurd (kind_ge z) (by omega)
    refine call_meets F.slot_str_split (typeIs_str _ _ _) F.entry_str_split (F.args_str_split_2 _ _) (meets_str_split_cannot_occur z ⟨#[c]⟩ t t' h1) ?_
    refine fin [(z, t)] _ ?_
    rw [zn]
    show [z] = [mkS []]
    rw [<- mkS_cps z, zn]
  · have h1' := Bool.eq_false_iff.mpr h1
    have hy : ((⟨#[c]⟩ : Str).length == 0) = false := rfl
    cases hf : (Builtin.Str.occurrences z ⟨#[c]⟩ 0 z.length (z.length + 1)).isEmpty with
    | true =>
      refine call_meets F.slot_str_split (typeIs_str _ _ _) F.entry_str_split (F.args_str_split_2 _ _) (meets_str_split_not_found z ⟨#[c]⟩ t t' h1' hy hf) ?_
      refine fin [(z, t)] _ ?_
      rw [e0] at hf
      have hcut := List.isEmpty_iff.mp hf
      rw [<- e1, hcut]
      show [z] = [Builtin.Str.strSub z 0 z.length]
      unfold Builtin.Str.strSub
      congr 1
      cases z
      simp [Str.length]
    | false =>
      refine call_meets F.slot_str_split (typeIs_str _ _ _) F.entry_str_split (F.args_str_split_2 _ _) (meets_str_split_sep z ⟨#[c]⟩ t t' h1' hy hf zl (by rw [e0]; show (Builtin.Str.partsBetween z _ 1).length <= _; rw [e1, List.length_map]; exact hn)) ?_
      rw [strsFrom_eq]
      refine fin (numbered s.toks _) _ ?_
      rw [numbered_texts, e0]
      exact e1
theorem call_intS : CallR X (.type "int") (fun xs H Q => ∃ (z : Str) (n : Int), xs = [.str z] /\ PySem.intText? z = some n /\ z.length <= 640 /\ Q (.int n) H) := by
  intro pins s σ H xs us Q I r h
  obtain ⟨z, n, rfl, hn, hl, q⟩ := h
  obtain ⟨u, rfl, ru⟩ := Vals.one r
  obtain ⟨t, rfl⟩ := ru
  exact PySem.W.KIN.call_text hn hl ⟨.int n, H, I.tok _, ⟨_, rfl⟩, q⟩
def TJ := St -> Hp -> Str -> (Str -> Hp -> Prop) -> Prop
def PJ (X : Cx) (es : List Expr) (t : TJ) : Prop := ∀ (pins : List (Addr × Obj)) (s : Shared) (σ : St) (H : Hp) (acc : Str) (Q : Str -> Hp -> Prop), Inv X pins σ H s -> t σ H acc Q ->
  Joins (model X.prog X.w) X.A X.xe (evalEach es X.env) acc (fun out s1 => ∃ H', Inv X pins σ H' s1 /\ Q out H') s
def tJ0 : TJ := fun _ H acc Q => Q acc H
def tJ1 (te : TE) (tr : TJ) : TJ := fun σ H acc Q => te σ H fun v H1 => ∃ y, v = .str y /\ (acc ++ y).length <= sizeLine /\ tr σ H1 (acc ++ y) Q
theorem pj_nil : PJ X [] tJ0 := fun _ _ _ H _ _ I h => ⟨H, I, h⟩
theorem joins_mono {M : Model} {A : Around} {E : Value -> Shared -> Prop} : ∀ {es : List (Sem Value)} {acc : Str} {Q Q' : Str -> Shared -> Prop} {s : Shared}, (∀ o s, Q o s -> Q' o s) -> Joins M A E es acc Q s -> Joins M A E es acc Q' s
  | [], _, _, _, _, f, h => f _ _ h
  | e :: es, _, _, _, _, f, h => thn h fun v s1 ⟨y, t, e1, e2, e3⟩ => ⟨y, t, e1, e2, joins_mono f e3⟩
theorem pj_cons {e : Expr} {es : List Expr} {te : TE} {tr : TJ} (he : PE X e te) (hr : PJ X es tr) : PJ X (e :: es) (tJ1 te tr) := by
  intro pins s σ H acc Q I h
  show wpAny _ _ (eval e X.env) _ _ s
  refine thn (he pins s σ H _ I h) fun v s1 ⟨x, H1, I1, r1, y, e1, hl, q⟩ => ?_
  subst e1
  obtain ⟨t, rfl⟩ := r1
  exact ⟨y, t, rfl, hl, hr pins s1 σ H1 _ Q I1 q⟩
theorem pe_joined {v1 v2 : Expr} {rest : List Expr} {t : TJ} {pos : Pos} (h : PJ X (v1 :: v2 :: rest) t) : PE X (.JoinedStr (v1 :: v2 :: rest) pos) (fun σ H Q => t σ H Str.empty fun out H' => out.length <= sizeLine /\ Q (.str out) H') := by
  intro pins s σ H Q I hw
  refine wpAny_JoinedStr (joins_mono (fun o s1 ⟨H', I', hl, q⟩ => ⟨hl, ?_⟩) (h pins s σ H _ _ I hw))
  exact ⟨.str o, H', I'.tok _, ⟨_, rfl⟩, q⟩
theorem pe_fint {value : Expr} {te : TE} {pos : Pos} (h : PE X value te) : PE X (.FormattedValue value (-1) none pos) (fun σ H Q => te σ H fun v H1 => ∃ i, v = .int i /\ i.natAbs.log2 < 1920 /\ Q (.str (toString i)) H1) := by
  intro pins s σ H Q I hw
  refine wpAny_FormattedValue_plain (thn (h pins s σ H _ I hw) fun v s1 ⟨x, H1, I1, r1, i, e1, hl, q⟩ => ?_)
  subst e1
  obtain ⟨t, rfl⟩ := r1
  exact wpAny_formatField_int hl ⟨.str _, H1, I1.tok _, ⟨_, rfl⟩, q⟩
theorem strsAre_of {ys : List Str} : ∀ {us : List Value}, Vals (ys.map V.str) us -> StrsAre us ys := by
  induction ys with
  | nil => intro us r; rw [Vals.zero r]; exact .nil
  | cons y ys ih =>
    intro us r
    cases r with
    | cons h t =>
      obtain ⟨tk, rfl⟩ := h
      exact .cons y tk (ih t)
def rJoin (K : PySem.W.Frag) : V -> List V -> Hp -> VK -> Prop := fun x vs H Q => ∃ (z : Str) (l : Addr) (ys : List Str), x = .str z /\ vs = [.ref l] /\ SqL K H l (ys.map V.str) /\ (ys.map (·.length)).sum + ys.length * z.length <= 16777216 /\ Q (.str (Txt.join z ys)) H
theorem mt_join : MtR X "str.join" (rJoin X.K) := by
  intro pins s σ H x xs v us Q I rx r h
  obtain ⟨z, l, ys, rfl, rfl, hl, hs, q⟩ := h
  obtain ⟨t, rfl⟩ := rx
  obtain ⟨u, rfl, ru⟩ := Vals.one r
  cases (show u = Value.ref l from ru)
  obtain ⟨its, r1, t1, _⟩ := I.list hl
  exact join_list t1.isList (by simpa using strsAre_of r1) hs fun t' k => ⟨.str _, H, I.tok _, ⟨_, rfl⟩, q⟩
def Its (z : Str) : It := ⟨fun i _ => i < z.cps.size, fun i H x H' => H' = H /\ ∃ c, z.cps[i]? = some c /\ x = .str ⟨#[c]⟩, fun i _ => z.cps.size <= i⟩
theorem turn_str {P : Program} {w : World} {K : PySem.W.Frag} {tg : Expr} (it : Addr) (z : Str) (t : Tok) : Turn P w K tg (Its z) [it] it (fun i h => h.IsStrIter it "str_ascii_iterator" z t i /\ i <= z.cps.size) where
  mem := by simp
  obj := fun i h st b hb => by
    rw [List.mem_singleton.mp hb]
    obtain ⟨⟨o, ho, hc, hd⟩, _⟩ := st
    exact ⟨o, ho, fun v z => by rw [hd] at z; cases z⟩
  keep := fun i h h' st k => let ⟨⟨o, ho, r⟩, l⟩ := st; ⟨⟨o, k it (by simp) o ho, r⟩, l⟩
  item := by
    intro X hP hw hK hc i pins s σ H E I hf st hg
    subst hP hw hK
    have W := Walks.strAscii (prog := X.prog) (w := X.w) (I.ok.hd hc) it z t
    refine W.item i s _ _ hg st.1 fun v h' tk hv st' kk => ?_
    obtain ⟨c, u, e, rfl⟩ := hv
    have I1 : Inv X pins σ H { s with heap := h', toks := tk } := I.turnM hf kk
    obtain ⟨o, ho, hcl, hd⟩ := st'
    exact ⟨_, rfl, go_of (s := { s with heap := h', toks := tk }) (n := "str_ascii_iterator") ho hcl hd (by decide) ⟨.str ⟨#[c]⟩, H, I1, ⟨u, rfl⟩, ⟨rfl, c, e, rfl⟩, ⟨⟨o, ho, hcl, hd⟩, hg⟩, fun b hb => (hf b hb).1⟩⟩
  done := by
    intro X hP hw hK hc i pins s σ H E I hf st hg
    subst hP hw hK
    have hi : i = z.cps.size := Nat.le_antisymm st.2 hg
    have st1 := st.1
    rw [hi] at st1
    have W := Walks.strAscii (prog := X.prog) (w := X.w) (I.ok.hd hc) it z t
    exact W.done s _ _ st1 fun h' tk kk => ⟨rfl, I.turnM hf kk⟩
  self := fun A i s Q E st h => wpAny_pyIter_striter_ascii st.1 h
def iStr (tl : TE) : TI := fun σ H R => tl σ H fun x H1 => ∃ z, x = .str z /\ z.cps.all (· < 128) = true /\ R (Its z) H1
theorem pi_str {tg l : Expr} {tl : TE} (hl : PE X l tl) : PI X tg l (iStr tl) := by
  intro pins s σ H R I h
  refine thn (hl pins s σ H _ I h) fun v s1 ⟨x, H1, I1, r1, z, e, ha, q⟩ => ?_
  subst e
  obtain ⟨t, rfl⟩ := r1
  refine wpAny_pyIter_ascii ha ?_
  refine ⟨s1.heap.objs.size, [s1.heap.objs.size], _, _, H1, rfl, I1.kept (t' := s1.toks) fun b o e => Heap.get?_push_of_some _ e, turn_str _ z t, ⟨⟨_, Heap.get?_push_size _ rfl, rfl, rfl⟩, Nat.zero_le _⟩, fun b hb => ?_, q⟩
  rw [List.mem_singleton.mp hb]
  exact I1.fpOk (Nat.le_refl _) (I1.hok.fresh (Nat.le_refl _))
theorem comp_str {z : Str} {g : TG} {tt : TT} {te : TE} {fin : List V -> Hp -> Prop} {σ : St} {H : Hp} (S : St -> Prop) (Pv : Nat -> List V -> Hp -> Prop) (hσ : S σ) (h0 : Pv 0 [] H) (hz : z.cps.size < sizeLine)
    (hs : ∀ (i : Nat) (c : Nat) (ys : List V) (σ : St) (H : Hp) (N : List V -> St -> Hp -> Prop), z.cps[i]? = some c -> S σ -> Pv i ys H -> (∀ ys' σ' H', S σ' -> Pv (i + 1) ys' H' -> ys'.length <= ys.length + 1 -> N ys' σ' H') ->
      g (.str ⟨#[c]⟩) σ H fun σ2 H2 => tt σ2 H2 fun b H3 => if b = true then te σ2 H3 fun y H4 => N (ys ++ [y]) σ2 H4 else N ys σ2 H3)
    (hd : ∀ ys H, Pv z.cps.size ys H -> fin ys H) : ∃ W, CompW (Its z) g tt te fin W /\ ∃ m, W 0 m [] σ H := by
  refine ⟨fun i m ys σ H => m = z.cps.size - i /\ i <= z.cps.size /\ ys.length <= i /\ S σ /\ Pv i ys H, ?_, z.cps.size, by simp, Nat.zero_le _, Nat.le_refl _, hσ, h0⟩
  rintro i m ys σ H ⟨rfl, hi, hy, hS, p⟩
  by_cases hlt : i < z.cps.size
  · refine .inr ⟨hlt, by omega, fun x H' y => ?_⟩
    obtain ⟨e, c, hc, rfl⟩ := y
    subst e
    exact hs i c ys σ _ (fun ys' σ' H'' => ∃ m', m' < z.cps.size - i /\ m' = z.cps.size - (i + 1) /\ i + 1 <= z.cps.size /\ ys'.length <= i + 1 /\ S σ' /\ Pv (i + 1) ys' H'') hc hS p (fun ys' σ' H'' a b c => ⟨_, by omega, rfl, hlt, by omega, a, b⟩)
  · have e : i = z.cps.size := by omega
    subst e
    exact .inl ⟨Nat.le_refl _, by omega, hd ys H p⟩
end
def CXr (P : Program) (w : World) : CXT := fun outer H s E e s' => ∃ (ea C : Addr) (a0 : Value) (B : Heap) (H' : Hp), e = .ref ea /\ s'.os = s.os /\ AllBare s'.gens /\ Un (frs outer) [] H H' s.heap s'.heap /\ HOk P w H' s'.heap /\
  Heap.FlyingW B outer ea (.ref C) a0 s'.heap /\ (∀ b o, s'.heap.get? b = some o -> ((∃ q, s.heap.get? b = some q) \/ ∃ q, H' b = some q) -> b ∉ frs outer -> B.get? b = some o) /\ E (.ref C) none H'
section
variable {P : Program} {w : World} {K : PySem.W.Frag} {mg : Str -> Option Value} {base : Heap} {N : List Str} {qual : Str} {scope : Scope} {f : Addr} {cd : Value} {A : Around} {outer : List Env} {s0 : Shared} {H0 : Hp} {E : XK}
end
section
variable {P : Program} {w : World} {K : PySem.W.Frag} {mg : Str -> Option Value} {base : Heap} {N : List Str} {qual : Str} {scope : Scope} {f : Addr} {cd : Value} {A : Around} {outer : List Env} {s0 : Shared} {H0 : Hp} {E : XK}
end
end L2
namespace L2
open PySem PySem.Spec PyProof.Rows PySem.W
section
variable {K : Frag} {prog : Program} {w : World} {A : Around} {E : Value -> Shared -> Prop} {h : Heap} {g : Array GenState} {d : Drawn} {t : Nat} {os : OsState} {a C : Addr} {o : Obj}
end
section
variable {X : Cx}
end
end L2
namespace L2
open PySem PySem.Spec PyProof.Rows PySem.W
section
variable {X : Cx} {pins : List (Addr × Obj)} {σ : St} {H H' : Hp} {s s' : Shared}
end
section
variable {X : Cx} {pins : List (Addr × Obj)} {σ : St} {H H' : Hp} {s s' : Shared} {v : Value}
end
end L2
namespace L2
open PySem PySem.Spec PyProof.Rows
open PySem.AutoSeq1 (wpAny_loadPart')
section
variable {prog : Program} {w : World} {A : Around} {E : Value -> Shared -> Prop} {s : Shared}
end
section
variable {X : Cx}
end
section
variable {X : Cx}
end
end L2
namespace L2
open PySem PySem.Spec PyProof.Rows PySem.W
def XP (X : Cx) (pins : List (Addr × Obj)) (DX : St -> XK) (e : Value) (s' : Shared) : Prop := ∃ σ H s, Inv X pins σ H s /\ CXr X.prog X.w X.stack H s (DX σ) e s'
section
variable {X : Cx}
end
end L2
namespace L2
open PySem PySem.Spec PyProof.Rows
section
variable {X : Cx}
end
section
variable {κ : Type} [DecidableEq κ]
def valV (kvs : List (κ × V)) (k : κ) : Option V := (kvs.find? fun kv => decide (kv.1 = k)).map (·.2)
def putK (kvs : List (κ × V)) (k : κ) (v : V) : List (κ × V) :=
  if (kvs.any fun kv => decide (kv.1 = k)) = true then kvs.map (fun kv => if kv.1 = k then (kv.1, v) else kv) else kvs ++ [(k, v)]
theorem valV_pos {p : κ × V} {r : List (κ × V)} {k : κ} (e : p.1 = k) : valV (p :: r) k = some p.2 := by simp [valV, List.find?_cons, e]
theorem valV_neg {p : κ × V} {r : List (κ × V)} {k : κ} (e : ¬ p.1 = k) : valV (p :: r) k = valV r k := by simp [valV, List.find?_cons, e]
theorem valV_any (k : κ) : ∀ kvs : List (κ × V), (kvs.any fun kv => decide (kv.1 = k)) = (valV kvs k).isSome
  | [] => rfl
  | p :: r => by
    rw [List.any_cons]
    by_cases e : p.1 = k
    · simp only [valV_pos e, decide_eq_true e, Bool.true_or, Option.isSome_some]
    · rw [valV_neg e, decide_eq_false e, Bool.false_or]; exact valV_any k r
theorem length_putK (kvs : List (κ × V)) (k : κ) (v : V) : (putK kvs k v).length <= kvs.length + 1 := by
  unfold putK
  split
  · rw [List.length_map]; lia
  · rw [List.length_append, List.length_cons, List.length_nil]; lia
theorem RelO.isSome_eq {o : Option V} {u : Option Value} (r : RelO o u) : o.isSome = u.isSome := by
  cases o with
  | none => cases u with
    | none => rfl
    | some _ => exact (show False from r).elim
  | some _ => cases u with
    | none => exact (show False from r).elim
    | some _ => rfl
theorem RelO.getD {o : Option V} {u : Option Value} {d : V} {d' : Value} (r : RelO o u) (rd : RelV d d') : RelV (o.getD d) (u.getD d') := by
  cases o with
  | none => cases u with
    | none => exact rd
    | some _ => exact (show False from r).elim
  | some _ => cases u with
    | none => exact (show False from r).elim
    | some _ => exact r
theorem KV.val {kvs : List (κ × V)} {vs : List (κ × Value)} (r : KV kvs vs) (k : κ) : RelO (valV kvs k) (valueAt vs k) := by
  unfold KV at r
  induction r with
  | nil => exact True.intro
  | @cons p q ps qs h t ih =>
    obtain ⟨h1, h2⟩ := h
    by_cases e : p.1 = k
    · have e' : q.1 = k := h1.symm.trans e
      have b : valueAt (q :: qs) k = some q.2 := by simp [valueAt, List.find?_cons, e']
      rw [valV_pos e, b]; exact h2
    · have e' : ¬ q.1 = k := fun z => e (h1.trans z)
      have b : valueAt (q :: qs) k = valueAt qs k := by simp [valueAt, List.find?_cons, e']
      rw [valV_neg e, b]; exact ih
theorem KV.any {kvs : List (κ × V)} {vs : List (κ × Value)} (r : KV kvs vs) (k : κ) : (kvs.any fun kv => decide (kv.1 = k)) = vs.any fun kv => decide (kv.1 = k) := by
  unfold KV at r
  induction r with
  | nil => rfl
  | cons h t ih => rw [List.any_cons, List.any_cons, ih, h.1]
theorem KV.repl {kvs : List (κ × V)} {vs : List (κ × Value)} (r : KV kvs vs) (k : κ) {y : V} {u : Value} (ry : RelV y u) :
    KV (kvs.map fun kv => if kv.1 = k then (kv.1, y) else kv) (vs.map fun kv => if kv.1 = k then (kv.1, u) else kv) := by
  unfold KV at r ⊢
  induction r with
  | nil => exact .nil
  | @cons p q ps qs h t ih =>
    rw [List.map_cons, List.map_cons]
    refine .cons ?_ ih
    obtain ⟨h1, h2⟩ := h
    by_cases e : p.1 = k
    · rw [if_pos e, if_pos (h1.symm.trans e)]; exact ⟨h1, ry⟩
    · rw [if_neg e, if_neg (fun z => e (h1.trans z))]; exact ⟨h1, h2⟩
theorem KV.put {kvs : List (κ × V)} {vs : List (κ × Value)} (r : KV kvs vs) (k : κ) {y : V} {u : Value} (ry : RelV y u) : KV (putK kvs k y) (stored vs k u) := by
  unfold putK stored
  rw [r.any k]
  by_cases e : (vs.any fun kv => decide (kv.1 = k)) = true
  · rw [if_pos e, if_pos e]; exact r.repl k ry
  · rw [if_neg e, if_neg e]; exact Paired.snoc r ⟨rfl, ry⟩
theorem KV.length {kvs : List (κ × V)} {vs : List (κ × Value)} (r : KV kvs vs) : kvs.length = vs.length := Paired.length r
end
theorem kV_is {P : Program} {w : World} {k : Key} {u : Value} (r : RelV (kV k) u) : (mixKind P w).is k u = true := by
  cases k with
  | inl i => obtain ⟨t, e⟩ := (show ∃ t, u = Value.int i t from r); subst e; exact mixKind_int P w i t
  | inr x => obtain ⟨t, e⟩ := (show ∃ t, u = Value.str x t from r); subst e; exact mixKind_str P w x t
theorem items_are {P : Program} {w : World} : ∀ {ks : List Key} {us : List Value}, Vals (ks.map kV) us -> ItemsAre (mixKind P w) ks us
  | [], _, r => by rw [List.map_nil] at r; cases r; exact .nil
  | k :: ks, _, r => by
    rw [List.map_cons] at r
    cases r with
    | cons h t => exact .cons (kV_is h) (items_are t)
abbrev KT (H : Hp) : List (List Key × V) -> List (List Key × Addr × Value) -> Prop := Paired fun p q => p.1 = q.1 /\ H q.2.1 = some (.tup (p.1.map kV)) /\ RelV p.2 q.2.2
theorem KT.val {H : Hp} {kvs : List (List Key × V)} {xs : List (List Key × Addr × Value)} (r : KT H kvs xs) (k : List Key) : RelO (valV kvs k) ((atKey xs k).map (·.2)) := by
  induction r with
  | nil => exact True.intro
  | @cons p q ps qs h t ih =>
    obtain ⟨h1, _, h2⟩ := h
    by_cases e : p.1 = k
    · have e' : q.1 = k := h1.symm.trans e
      have b : atKey (q :: qs) k = some q.2 := by simp [atKey, List.find?_cons, e']
      rw [valV_pos e, b]; exact h2
    · have e' : ¬ q.1 = k := fun z => e (h1.trans z)
      have b : atKey (q :: qs) k = atKey qs k := by simp [atKey, List.find?_cons, e']
      rw [valV_neg e, b]; exact ih
theorem KT.repl {H : Hp} {kvs : List (List Key × V)} {xs : List (List Key × Addr × Value)} (r : KT H kvs xs) (k : List Key) {y : V} {u : Value} (ry : RelV y u) :
    KT H (kvs.map fun kv => if kv.1 = k then (kv.1, y) else kv) (xs.map (putAt k u)) := by
  induction r with
  | nil => exact .nil
  | @cons p q ps qs h t ih =>
    rw [List.map_cons, List.map_cons]
    refine .cons ?_ ih
    obtain ⟨h1, h2, h3⟩ := h
    unfold putAt
    by_cases e : p.1 = k
    · rw [if_pos e, if_pos (h1.symm.trans e)]; exact ⟨h1, h2, ry⟩
    · rw [if_neg e, if_neg (fun z => e (h1.trans z))]; exact ⟨h1, h2, h3⟩
theorem KT.put {H : Hp} {kvs : List (List Key × V)} {xs : List (List Key × Addr × Value)} (r : KT H kvs xs) (k : List Key) {b : Addr} {y : V} {u : Value} (hb : H b = some (.tup (k.map kV))) (ry : RelV y u) :
    KT H (putK kvs k y) (storedH xs k b u) := by
  have e : (kvs.any fun kv => decide (kv.1 = k)) = (atKey xs k).isSome := by
    rw [valV_any, (r.val k).isSome_eq, Option.isSome_map]
  unfold putK storedH
  rw [e]
  by_cases q : (atKey xs k).isSome = true
  · rw [if_pos q, if_pos q]; exact r.repl k ry
  · rw [if_neg q, if_neg q]; exact Paired.snoc r ⟨rfl, hb, ry⟩
theorem KT.keeps {H H' : Hp} {kvs : List (List Key × V)} {xs : List (List Key × Addr × Value)} (r : KT H kvs xs) (ht : ∀ b ys, H b = some (.tup ys) -> H' b = some (.tup ys)) : KT H' kvs xs :=
  Paired.mapP r fun _ _ z => ⟨z.1, ht _ _ z.2.1, z.2.2⟩
section
variable {P : Program} {w : World} {H : Hp} {h : Heap} {a : Addr}
theorem rd_of {u : HO} (ok : HOk P w H h) (e : Rd H a u) : ObjOk P w H h a u := e.ok ok
theorem dk_rd {kvs : List (Key × V)} (ok : HOk P w H h) (e : Rd H a (.dK kvs)) : kvs.length <= sizeLine /\ (a == sysModules) = false /\ ∃ vs, KV kvs vs /\ h.DictOf (mixKind P w) a vs :=
  show ObjOk P w H h a (.dK kvs) from rd_of ok e
theorem dk_of {kvs : List (Key × V)} (ok : HOk P w H h) (e : H a = some (.dK kvs)) : kvs.length <= sizeLine /\ (a == sysModules) = false /\ ∃ vs, KV kvs vs /\ h.DictOf (mixKind P w) a vs := dk_rd ok (.inl e)
theorem key_of {ks : List Key} (ok : HOk P w H h) (e : H a = some (.tup (ks.map kV))) : (tupleKind (mixKind P w)).is h ks a := by
  obtain ⟨_, its, r, o, h1, h2, n, h3⟩ := (show ObjOk P w H h a (.tup (ks.map kV)) from ok a _ e)
  exact ⟨o, its.toArray, n, h1, h2, h3, by simpa using items_are r⟩
theorem dt_rd {kvs : List (List Key × V)} (ok : HOk P w H h) (e : Rd H a (.dT kvs)) : kvs.length <= sizeLine /\ (a == sysModules) = false /\
    ∃ xs, KT H kvs xs /\ h.DictOfH (tupleKind (mixKind P w)) a xs := by
  obtain ⟨z, y, xs, r, o, es, ep, h1, h2, h3, h4, h5⟩ := (show ObjOk P w H h a (.dT kvs) from rd_of ok e)
  refine ⟨z, y, xs, r, o, es, ep, h1, h2, h3, h4, fun x hx => ?_, h5⟩
  have all : ∀ {l : List (List Key × V)} {m : List (List Key × Addr × Value)}, KT H l m -> ∀ x ∈ m, (tupleKind (mixKind P w)).is h x.1 x.2.1 := by
    intro l m q
    induction q with
    | nil => intro x hx; exact nomatch hx
    | @cons p q ps qs hq t ih =>
      intro x hx
      rcases List.mem_cons.mp hx with e | hx
      · subst e
        exact key_of ok (by rw [<- hq.1]; exact hq.2.1)
      · exact ih x hx
  exact all r x hx
theorem dt_of {kvs : List (List Key × V)} (ok : HOk P w H h) (e : H a = some (.dT kvs)) : kvs.length <= sizeLine /\ (a == sysModules) = false /\
    ∃ xs, KT H kvs xs /\ h.DictOfH (tupleKind (mixKind P w)) a xs := dt_rd ok (.inl e)
end
def DGet (H : Hp) (a : Addr) (y : V) (r : Option V) : Prop :=
  (∃ kvs k, Rd H a (.dK kvs) /\ y = kV k /\ r = valV kvs k) \/ ∃ kvs k b, Rd H a (.dT kvs) /\ y = .ref b /\ H b = some (.tup (k.map kV)) /\ r = valV kvs k
def DPut (H : Hp) (a : Addr) (y v : V) (H' : Hp) : Prop :=
  (∃ kvs k, H a = some (.dK kvs) /\ y = kV k /\ kvs.length < sizeLine /\ H' = upd H a (.dK (putK kvs k v))) \/
  ∃ kvs k b, H a = some (.dT kvs) /\ y = .ref b /\ H b = some (.tup (k.map kV)) /\ kvs.length < sizeLine /\ H' = upd H a (.dT (putK kvs k v))
theorem DGet.t {H : Hp} {a b : Addr} {kvs : List (List Key × V)} {k : List Key} (e : H a = some (.dT kvs)) (eb : H b = some (.tup (k.map kV))) : DGet H a (.ref b) (valV kvs k) := .inr ⟨kvs, k, b, .inl e, rfl, eb, rfl⟩
theorem DPut.t {H : Hp} {a b : Addr} {kvs : List (List Key × V)} {k : List Key} {v : V} (e : H a = some (.dT kvs)) (eb : H b = some (.tup (k.map kV))) (hl : kvs.length < sizeLine) :
    DPut H a (.ref b) v (upd H a (.dT (putK kvs k v))) := .inr ⟨kvs, k, b, e, rfl, eb, hl, rfl⟩
section
variable {X : Cx} {pins : List (Addr × Obj)} {σ : St} {H : Hp} {s : Shared} {a : Addr} {y v : V} {u r : Value} {o : Option V} {A : Around} {E : Value -> Shared -> Prop}
theorem Inv.big (I : Inv X pins σ H s) : sysModules < s.heap.objs.size := by
  have h : mainGlobals < s.heap.objs.size := (I.mod.glob.keeps I.bk).lt
  exact Nat.lt_trans (by decide) h
theorem d_write {h' : Heap} {t' : Nat} {ob : HO} (I : Inv X pins σ H s) (mu : Mut (H a)) (hs : Heap.SameBut a s.heap h') (he : ∃ q, h'.get? a = some q) (new : ObjOk X.prog X.w (upd H a ob) h' a ob) :
    Inv X pins σ (upd H a ob) { s with heap := h', toks := t' } :=
  I.write (x := a) (e := a) mu (.inl rfl) (fun b q hb z => (hs.2 b hb).trans z) he new
theorem dk_new {P : Program} {w : World} {H' : Hp} {h' : Heap} {kvs : List (Key × V)} {vs : List (Key × Value)} (z : kvs.length <= sizeLine) (hd : (a == sysModules) = false) (rel : KV kvs vs) (dd : h'.DictOf (mixKind P w) a vs) :
    ObjOk P w H' h' a (.dK kvs) := ⟨z, hd, vs, rel, dd⟩
theorem d_setItem {H' : Hp} {Q : Unit -> Shared -> Prop} (hu : A.units + 1 < cLine) (I : Inv X pins σ H s) (g : DPut H a y v H') (ry : RelV y u) (rv : RelV v r) (h : ∀ s', Inv X pins σ H' s' -> Q () s') :
    wpAny (model X.prog X.w) A (setItem (.ref a) u r) Q E s := by
  rcases g with ⟨kvs, k, e, ey, l, eH⟩ | ⟨kvs, k, b, e, ey, eb, l, eH⟩
  · subst ey eH
    obtain ⟨z, hd, vs, rel, dd⟩ := dk_of I.hok e
    have hz : vs.length <= sizeLine := by rw [<- rel.length]; exact z
    have hl : (putK kvs k v).length <= sizeLine := by have := length_putK kvs k v; lia
    refine wpAny_setItem_pairs (hsz := hz) (kV_is ry) dd fun h' dd' hs => h _ ?_
    have he : ∃ q, h'.get? a = some q := let ⟨q, _, _, hq, _⟩ := dd'; ⟨q, hq⟩
    exact d_write I (by rw [e]; exact True.intro) hs he (dk_new hl hd (rel.put k rv) dd')
  · subst ey eH
    cases (show u = Value.ref b from ry)
    obtain ⟨z, hd, xs, rel, dd⟩ := dt_of I.hok e
    have hz : xs.length <= sizeLine := by rw [<- Paired.length rel]; exact z
    have hl : (putK kvs k v).length <= sizeLine := by have := length_putK kvs k v; lia
    refine wpAny_setItem_heap (hsz := hz) (tupleKind_room_in1 hu) (key_of I.hok eb) dd fun h' dd' hs => h _ ?_
    obtain ⟨q, es, ep, hq, h2, h3, h4, _, h5⟩ := dd'
    refine d_write I (by rw [e]; exact True.intro) hs ⟨q, hq⟩ ⟨hl, hd, _, (rel.put k eb rv).keeps fun c ys ec => ?_, q, es, ep, hq, h2, h3, h4, h5⟩
    rw [upd_ne (ne_of ec e (fun z => nomatch z))]
    exact ec
end
section
variable {X : Cx} {pins : List (Addr × Obj)} {σ : St} {H : Hp} {s : Shared} {a : Addr} {kvs : List (Key × V)} {k : Key} {u : Value} {A : Around} {E : Value -> Shared -> Prop}
end
def sDPut (td ty tv : TE) : TS := fun D σ H => tv σ H fun v H1 => td σ H1 fun x H2 => ty σ H2 fun y H3 => ∃ a H4, x = .ref a /\ DPut H3 a y v H4 /\ D.nx σ H4
section
variable {X : Cx} {o i e value : Expr} {pos pos' tpos : Pos} {td ty tv : TE}
theorem ps_dput (hu : X.A.units + 1 < cLine) (ho : PE X o td) (hi : PE X i ty) (hv : PE X value tv) (hs : swapsWith value (some (.Subscript o i pos')) pos.line X.env = pure false) :
    PS X (.Assign [.Subscript o i pos'] value pos) (sDPut td ty tv) := by
  intro pins s σ H D I h
  refine wpAny_Assign_Subscript (thn (hv pins s σ H _ I h) fun r s1 ⟨v, H1, I1, rv, q1⟩ => thn (ho pins s1 σ H1 _ I1 q1) fun u s2 ⟨x, H2, I2, rx, q2⟩ => thn (hi pins s2 σ H2 _ I2 q2) fun iv s3 ⟨y, H3, I3, ry, a, H4, ex, g, q3⟩ => ?_) hs
  subst ex
  obtain rfl : u = Value.ref a := rx
  exact d_setItem hu I3 g ry rv fun s4 I4 => ⟨σ, H4, I4, q3⟩
end
theorem dt_empty {P : Program} {w : World} {H : Hp} (h : Heap) (hb : sysModules < h.objs.size) : ObjOk P w H (h.push { cls := .type "dict", data := .dict #[] }) h.objs.size (.dT []) :=
  ⟨Nat.zero_le _, beq_eq_false_iff_ne.mpr (Ne.symm (Nat.ne_of_lt hb)), [], .nil, _, #[], 0, Heap.get?_push_size _ rfl, ⟨rfl, rfl, rfl⟩, rfl, rfl, List.nodup_nil⟩
def tDNewT : TE := fun _ H Q => ∀ p, H p = none -> Q (.ref p) (upd H p (.dT []))
section
variable {X : Cx} {pos : Pos}
theorem pe_dnewT : PE X (.Dict [] [] pos) tDNewT := fun pins s σ H Q I h =>
  wpAny_Dict_empty ⟨.ref s.heap.objs.size, _, I.laid (a := s.heap.objs.size) (o := .dT []) (t' := s.toks) (fun _ _ q => Heap.get?_push_of_some _ q) (Nat.le_refl _) (dt_empty s.heap I.big), rfl, h _ (I.hok.fresh (Nat.le_refl _))⟩
end
structure M2 (X : Cx) (o : Expr) (m : Str) (apos : Pos) (e f : Expr) (cpos : Pos) : Prop where
  base : attributeBase o m X.env (eval o X.env) = eval o X.env
  few : ((backTo cpos (starEach [e, f] X.env)).all (fun x => !x.1) && (backToKw cpos (keywordEach [] X.env)).all (fun x => x.1.isSome)
    && decide (([e, f] : List Expr).length + ([] : List Keyword).length + (if ([] : List Keyword).isEmpty then 0 else 1) < 30)) = true
  line : (apos.endLine == cpos.line) = true
  trees : backTo cpos (starEach [e, f] X.env) = [(false, eval e X.env), (false, eval f X.env)]
def IsD (H : Hp) (a : Addr) : Prop := (∃ kvs, Rd H a (.dK kvs)) \/ ∃ kvs, Rd H a (.dT kvs)
theorem isD_at {X : Cx} {pins : List (Addr × Obj)} {σ : St} {H : Hp} {s : Shared} {a : Addr} (I : Inv X pins σ H s) (d : IsD H a) :
    s.TypeIs (.ref a) "dict" /\ (∀ b, Value.ref a = .ref b -> ∃ ob, s.heap.get? b = some ob /\ ob.dict = none) /\ (a == sysModules) = false := by
  rcases d with ⟨kvs, e⟩ | ⟨kvs, e⟩
  · obtain ⟨_, hd, vs, _, dd⟩ := dk_rd I.hok e
    refine ⟨dd.typeIs, fun b q => ?_, hd⟩
    cases q
    obtain ⟨ob, _, _, h1, h2, _⟩ := dd
    exact ⟨ob, h1, h2.2.1⟩
  · obtain ⟨_, hd, xs, _, dd⟩ := dt_rd I.hok e
    refine ⟨dd.typeIs, fun b q => ?_, hd⟩
    cases q
    obtain ⟨ob, _, _, h1, h2, _⟩ := dd
    exact ⟨ob, h1, h2.2.1⟩
section
variable {X : Cx} {pins : List (Addr × Obj)} {σ : St} {H : Hp} {s : Shared} {a : Addr} {y d : V} {u r : Value} {o : Option V} {A : Around} {E : Value -> Shared -> Prop}
theorem d_get2 {Q : Value -> Shared -> Prop} (hu : A.units + 1 < cLine) (I : Inv X pins σ H s) (g : DGet H a y o) (ry : RelV y u) (rd : RelV d r) (h : ∀ w' s', Inv X pins σ H s' -> RelV (o.getD d) w' -> Q w' s') :
    wpAny (model X.prog X.w) A (call (.builtin "dict.get") [.ref a, u, r]) Q E s := by
  rcases g with ⟨kvs, k, e, ey, l⟩ | ⟨kvs, k, b, e, ey, eb, l⟩
  · subst ey
    obtain ⟨z, hd, vs, rel, dd⟩ := dk_rd I.hok e
    refine call_meetsIn PySem.F.slot_dict_get dd.typeIs PySem.F.entry_dict_get (PySem.F.args_dict_get_3 _ _ _) (meets_dict_get_default (mixKind X.prog X.w) a (kV_is ry) hd r) ⟨_, dd.mapOf, h _ _ (I.tok _) ?_⟩
    rw [l]
    exact (rel.val k).getD rd
  · subst ey
    cases (show u = Value.ref b from ry)
    obtain ⟨z, hd, xs, rel, dd⟩ := dt_rd I.hok e
    refine call_meetsIn PySem.F.slot_dict_get dd.typeIs PySem.F.entry_dict_get (PySem.F.args_dict_get_3 _ _ _) (meetsH_dict_get_default (tupleKind (mixKind X.prog X.w)) a b hd r) ⟨tupleKind_room_in1 hu, k, xs, key_of I.hok eb, dd, h _ _ (I.tok _) ?_⟩
    rw [l]
    exact (rel.val k).getD rd
end
def tDGet2 (td ty tx : TE) : TE := fun σ H Q => td σ H fun x H1 => ∃ a, x = .ref a /\ IsD H1 a /\ ty σ H1 fun y H2 => tx σ H2 fun z H3 => ∃ o, DGet H3 a y o /\ Q (o.getD z) H3
section
variable {X : Cx} {o e f : Expr} {apos cpos : Pos} {td ty tx : TE}
theorem pe_dget2 (hu : X.A.units + 1 < cLine) (ho : PE X o td) (he : PE X e ty) (hf : PE X f tx) (m : M2 X o "get" apos e f cpos) : PE X (.Call (.Attribute o "get" apos) [e, f] [] cpos) (tDGet2 td ty tx) := by
  intro pins s σ H Q I h
  refine wpAny_Call_method m.base m.few m.line PySem.F.plainAttrs_dict PySem.F.slot_dict_get PySem.F.type_dict_get (thn (ho pins s σ H _ I h) fun u s1 ⟨x, H1, I1, rx, a, ex, d, q1⟩ => ?_)
  subst ex
  obtain rfl : u = Value.ref a := rx
  obtain ⟨t1, t2, _⟩ := isD_at I1 d
  refine ⟨t1, t2, ?_⟩
  rw [m.trees]
  refine Calls.callWith_builtin rfl (Calls.evalArgs_plain (Calls.spliced_cons (thn (he pins s1 σ H1 _ I1 q1) fun iv s2 ⟨y, H2, I2, ry, q2⟩ =>
    Calls.spliced_cons (thn (hf pins s2 σ H2 _ I2 q2) fun fv s3 ⟨z, H3, I3, rz, ov, g, q3⟩ => Calls.spliced_nil ?_))))
  exact d_get2 hu I3 g ry rz fun w' s4 I4 rw' => ⟨_, H3, I4, rw', q3⟩
end
section
variable {X : Cx} {pins : List (Addr × Obj)} {σ : St} {H : Hp} {s : Shared} {a : Addr} {kvs : List (Key × V)} {A : Around} {E : Value -> Shared -> Prop}
end
section
variable {X : Cx} {pins : List (Addr × Obj)} {σ : St} {H : Hp} {s : Shared} {a : Addr} {y : V} {u : Value} {A : Around} {E : Value -> Shared -> Prop}
end
section
variable {prog : Program} {w : World} {A : Around} {E : Value -> Shared -> Prop} {s : Shared} {it d v : Addr} {i ep : Nat} {es : Array DictEntry} {o : Obj}
theorem items_call {Q : Value -> Shared -> Prop} (hs : (d == sysModules) = false) (ho : s.heap.get? d = some o) (hx : o.ExactDict)
    (q : Q (.ref s.heap.objs.size) { s with heap := s.heap.push { cls := .type "dict_items", data := .fields #[.ref d] } }) : wpAny (model prog w) A (call (.builtin "dict.items") [.ref d]) Q E s := by
  have ty : s.TypeIs (.ref d) "dict" := ⟨o, ho, hx.1⟩
  refine wpAny_call_entry F.slot_dict_items ty F.entry_dict_items ?_ (F.args_dict_items_1 _)
  unfold Builtin.«dict.items»
  refine wpAny_bind ?_
  unfold Builtin.Dict.noArgs
  refine wpAny_bind (wpAny_notOrdered_dict ty ?_)
  show wpAny _ _ (pure d) _ _ s
  refine wpAny_pure ?_
  show wpAny _ _ (Builtin.Dict.showsAll d >>= _) _ _ s
  unfold Builtin.Dict.showsAll
  rw [if_neg (by rw [hs]; exact Bool.false_ne_true)]
  exact wpAny_bind (wpAny_pure (wpAny_bind (wpAny_newObj_type (wpAny_pure ⟨_, rfl, q⟩))))
theorem items_iter {Q : Value -> Shared -> Prop} (hv : s.heap.IsItemsView v d) (ho : s.heap.get? d = some o) (hd : o.data = .dict es ep)
    (q : Q (.ref s.heap.objs.size) { s with heap := s.heap.push { cls := .type "dict_itemiterator", data := .fields #[.none, .bool false, .ref d, .int 0 0, .int es.size 0, .int ep 0, .none, .none] } }) :
    wpAny (model prog w) A (pyIter (.ref v)) Q E s := by
  obtain ⟨ov, h1, h2, h3⟩ := id hv
  refine wpAny_pyIter_slot hv.typeIs F.slot_dict_items_iter (wpAny_call_entry F.slot_dict_items_iter hv.typeIs F.entry_dict_items_iter ?_ (F.args_dict_items_iter_1 _))
  unfold Builtin.«dict_items.__iter__»
  refine wpAny_bind (wpAny_pure (wpAny_bind ?_))
  unfold Builtin.Dict_items.dictOf
  refine wpAny_bind (wpAny_field h1 h3 (x := .ref d) rfl (wpAny_pure (wpAny_bind ?_)))
  unfold Builtin.Dict_items.newIterator
  refine wpAny_bind (wpAny_dictEntries ho hd (wpAny_bind (wpAny_dictEpoch ho hd ?_)))
  simp only [show Builtin.Dict_items.ownsTuple "dict_itemiterator" = true from by decide, if_true]
  refine wpAny_newObj_type (wpAny_pure ⟨_, rfl, "dict_itemiterator", _, ⟨_, Heap.get?_push_size _ rfl, rfl⟩, F.slot_dict_itemiterator_next.lookup, ?_⟩) (by simp only [sizeOk, Builtin.Dict_items.ownedTupleFields, List.size_toArray, List.length_append, List.length_cons, List.length_nil, sizeLine_eq]; lia)
  simpa [rawInt, Builtin.Dict_items.ownedTupleFields] using q
theorem items_next {e : DictEntry} {ok ov : Value} {Q : Option Value -> Shared -> Prop} (hit : IsItemIter s.heap it d i es.size ep ok ov) (ho : s.heap.get? d = some o) (hd : o.data = .dict es ep) (hx : es[i]? = some e)
    (q : ∀ h', IsItemIterOut h' it d (i + 1) es.size ep e.key e.val s.heap.objs.size -> h'.get? s.heap.objs.size = some { cls := .type "tuple", data := .seq #[e.key, e.val] } ->
      (∀ b o, b ≠ it -> s.heap.get? b = some o -> h'.get? b = some o) -> Q (some (.ref s.heap.objs.size)) { s with heap := h' }) : wpAny (model prog w) A (pyNext (.ref it)) Q E s := by
  obtain ⟨hp, g, dr, tk, os⟩ := s
  have ty : Shared.TypeIs ⟨hp, g, dr, tk, os⟩ (.ref it) "dict_itemiterator" := ⟨_, hit, rfl⟩
  unfold pyNext
  refine wpAny_bind (wpAny_attempt (wpAny_callSpecial?_slot (name := Str.ofString "__next__") ty F.slot_dict_itemiterator_next (wpAny_call_entry F.slot_dict_itemiterator_next ty F.entry_dict_itemiterator_next ?_ (F.args_dict_itemiterator_next_1 _))))
  refine wpAny_bind (wpAny_pure (wpAny_bind (wpAny_bind (wpAny_bind (wpAny_typeNameOfWhole_itemiter ty (wpAny_pure (wpAny_bind (wpAny_fieldsOf hit rfl ?_))))))))
  simp only [show Builtin.Dict_items.ownsTuple "dict_itemiterator" = true from by decide, if_true]
  show wpAny _ _ (if (Value.ref d == Value.none) = true then _ else _) _ _ _
  rw [if_neg (show ¬ (Value.ref d == Value.none) = true from Bool.false_ne_true)]
  refine wpAny_bind (wpAny_pure (wpAny_bind (wpAny_dictEntries ho hd ?_)))
  rw [if_neg (by simp)]
  refine wpAny_bind (wpAny_pure (wpAny_bind (wpAny_dictEpoch ho hd ?_)))
  rw [if_neg (by simp)]
  refine wpAny_pure ?_
  simp only [show ¬ ((i : Int) < 0) from by lia, if_false, Int.toNat_natCast, hx]
  refine wpAny_bind (wpAny_bind (wpAny_typeNameOfWhole_itemiter ty (wpAny_pure (wpAny_bind (wpAny_isOneOf_itemiter ty ?_)))))
  show wpAny _ _ (setField (.ref it) 3 (rawInt ((i : Int) + 1)) >>= _) _ _ ⟨hp, g, dr, tk, os⟩
  refine wpAny_bind (wpAny_setField_rec hit (by simp) fun g1 e1 b1 => ?_)
  replace b1 : Heap.SameBut it hp g1 := b1
  replace e1 : IsItemIter g1 it d (i + 1) es.size ep ok ov := by
    unfold IsItemIter
    rw [show ((i + 1 : Nat) : Int) = (i : Int) + 1 by lia]
    simpa [rawInt] using e1
  have ty1 : Shared.TypeIs ⟨g1, g, dr, tk, os⟩ (.ref it) "dict_itemiterator" := ⟨_, e1, rfl⟩
  refine wpAny_bind (wpAny_holding (wpAny_bind (wpAny_isOneOf_itemiter ty1 (wpAny_bind (wpAny_isOneOf_itemiter ty1 ?_)))))
  show wpAny _ _ (Builtin.Dict_items.pairFromOwner (.ref it) 6 e.key e.val) _ _ ⟨g1, g, dr, tk, os⟩
  unfold Builtin.Dict_items.pairFromOwner
  refine wpAny_bind (wpAny_newTuple ?_)
  have e2 : IsItemIter (g1.push { cls := .type "tuple", data := .seq #[e.key, e.val] }) it d (i + 1) es.size ep ok ov := Heap.get?_push_of_some _ e1
  have z1 : g1.objs.size = hp.objs.size := b1.1
  have il : it < hp.objs.size := Heap.lt_size hit
  have t2 : (g1.push { cls := .type "tuple", data := .seq #[e.key, e.val] }).get? hp.objs.size = some { cls := .type "tuple", data := .seq #[e.key, e.val] } := by rw [<- z1]; exact Heap.get?_push_size _ rfl
  have k2 : ∀ b o, b ≠ it -> hp.get? b = some o -> (g1.push { cls := .type "tuple", data := .seq #[e.key, e.val] }).get? b = some o := fun b o hb z => Heap.get?_push_of_some _ (b1.extBut b o hb z)
  show wpAny _ _ (Builtin.Dict_items.ownedTupleIsFree (.ref it) >>= _) _ _ ⟨g1.push { cls := .type "tuple", data := .seq #[e.key, e.val] }, g, dr, tk, os⟩
  rw [z1]
  generalize g1.push { cls := .type "tuple", data := .seq #[e.key, e.val] } = g2 at e2 t2 k2
  refine wpAny_bind ?_
  unfold Builtin.Dict_items.ownedTupleIsFree
  refine wpAny_bind (wpAny_field e2 rfl (x := Value.none) rfl (wpAny_pure ?_))
  simp only [if_true]
  refine wpAny_bind (wpAny_field e2 rfl (x := ok) rfl (wpAny_bind (wpAny_field e2 rfl (x := ov) rfl (wpAny_bind (wpAny_setField_rec e2 (by simp) fun g3 e3 b3 => ?_)))))
  replace b3 : Heap.SameBut it g2 g3 := b3
  replace e3 : IsItemIter g3 it d (i + 1) es.size ep e.key ov := e3
  refine wpAny_bind (wpAny_setField_rec e3 (by simp) fun g4 e4 b4 => ?_)
  replace b4 : Heap.SameBut it g3 g4 := b4
  replace e4 : IsItemIter g4 it d (i + 1) es.size ep e.key e.val := e4
  refine wpAny_bind (wpAny_setField_rec e4 (by simp) fun g5 e5 b5 => ?_)
  replace b5 : Heap.SameBut it g4 g5 := b5
  replace e5 : IsItemIterOut g5 it d (i + 1) es.size ep e.key e.val hp.objs.size := e5
  refine wpAny_bind (wpAny_setField_rec e5 (by simp) fun g6 e6 b6 => ?_)
  replace b6 : Heap.SameBut it g5 g6 := b6
  replace e6 : IsItemIterOut g6 it d (i + 1) es.size ep e.key e.val hp.objs.size := e6
  have up : ∀ b o, b ≠ it -> g2.get? b = some o -> g6.get? b = some o := fun b o hb z => b6.extBut b o hb (b5.extBut b o hb (b4.extBut b o hb (b3.extBut b o hb z)))
  exact wpAny_bind (wpAny_letGo (wpAny_pure (wpAny_pure ⟨_, rfl, wpAny_pure (q g6 e6 (up _ _ (Nat.ne_of_gt il) t2) fun b o hb z => up b o hb (k2 b o hb z))⟩)))
theorem items_end {ok ov : Value} {Q : Option Value -> Shared -> Prop} (hh : A.handled = none) (hit : IsItemIter s.heap it d i es.size ep ok ov) (ho : s.heap.get? d = some o) (hd : o.data = .dict es ep) (hx : es.size <= i)
    (q : ∀ h', Heap.ExtBut it s.heap h' -> Q none { s with heap := h' }) : wpAny (model prog w) A (pyNext (.ref it)) Q E s := by
  have ty : s.TypeIs (.ref it) "dict_itemiterator" := ⟨_, hit, rfl⟩
  unfold pyNext
  refine wpAny_bind (wpAny_attempt (wpAny_callSpecial?_slot (name := Str.ofString "__next__") ty F.slot_dict_itemiterator_next (wpAny_call_entry F.slot_dict_itemiterator_next ty F.entry_dict_itemiterator_next ?_ (F.args_dict_itemiterator_next_1 _))))
  refine wpAny_bind (wpAny_pure (wpAny_bind (wpAny_bind (wpAny_bind (wpAny_typeNameOfWhole_itemiter ty (wpAny_pure (wpAny_bind (wpAny_fieldsOf hit rfl ?_))))))))
  simp only [show Builtin.Dict_items.ownsTuple "dict_itemiterator" = true from by decide, if_true]
  show wpAny _ _ (if (Value.ref d == Value.none) = true then _ else _) _ _ s
  rw [if_neg (show ¬ (Value.ref d == Value.none) = true from Bool.false_ne_true)]
  refine wpAny_bind (wpAny_pure (wpAny_bind (wpAny_dictEntries ho hd ?_)))
  rw [if_neg (by simp)]
  refine wpAny_bind (wpAny_pure (wpAny_bind (wpAny_dictEpoch ho hd ?_)))
  rw [if_neg (by simp)]
  refine wpAny_pure ?_
  simp only [show ¬ ((i : Int) < 0) from by lia, if_false, Int.toNat_natCast, Array.getElem?_eq_none hx]
  refine wpAny_bind (wpAny_bind (wpAny_typeNameOfWhole_itemiter ty (wpAny_pure ?_)))
  show wpAny _ _ (setField (.ref it) 2 .none >>= _) _ _ s
  refine wpAny_bind (wpAny_setField hit rfl (by simp) ?_)
  show wpAny _ _ (newExc (.type "StopIteration") [] >>= _) _ _ _
  refine wpAny_bind ?_
  simp only [newExc, newTuple]
  refine wpAny_bind (wpAny_newObj_type (wpAny_bind (m := firstArgMember _ _) (wpAny_of_eq (a := Value.none) (by first | rfl | (simp only [firstArgMember]; rfl)) (wpAny_newObj_type ?_ (by size_fits)))) (by size_fits))
  simp only [raiseNew]
  refine wpAny_bind (wpAny_handled ?_)
  rw [show A.in1.handled = none from hh]
  refine wpAny_bind (wpAny_pure (wpAny_throw ?_))
  exact wpAny_bind (wpAny_isInstance (T := "StopIteration") (b := true) ⟨_, Heap.get?_push_size _ rfl, rfl⟩ isSubtype_stop (wpAny_pure (q _ (((Heap.SameBut.update ..).extBut.push _).push _))))
end
abbrev TTab := List (List Key × V)
section
variable {X : Cx} {pins : List (Addr × Obj)} {σ : St} {H : Hp} {s : Shared} {d : Addr} {kvs : TTab}
theorem KT.at {H : Hp} : ∀ {kvs : TTab} {xs : List (List Key × Addr × Value)} {i : Nat} {k : List Key} {v : V}, KT H kvs xs -> kvs[i]? = some (k, v) -> ∃ b u, xs[i]? = some (k, b, u) /\ H b = some (.tup (k.map kV)) /\ RelV v u
  | _, _, _, _, _, .nil, e => by simp at e
  | _, _, 0, k, v, .cons (a := p) (b := q) r _, e => by
    simp at e
    subst e
    obtain ⟨r1, r2, r3⟩ := r
    obtain ⟨q1, q2, q3⟩ := q
    cases (show k = q1 from r1)
    exact ⟨q2, q3, by simp, r2, r3⟩
  | _, _, i + 1, k, v, .cons _ t, e => by
    obtain ⟨b, u, h1, h2⟩ := KT.at (i := i) t (by simpa using e)
    exact ⟨b, u, by simpa using h1, h2⟩
theorem frz_raw {o : Obj} (I : Inv X pins σ H s) (h : H d = some (.frz o (.dT kvs))) : s.heap.get? d = some o /\ ∃ xs es ep, KT H kvs xs /\ o.ExactDict /\ o.data = .dict es ep /\ es.toList = xs.map (entryOfKey (tupleKind (mixKind X.prog X.w))) := by
  obtain ⟨g, z, y, xs, r, o', es, ep, g', h1, h2, h3, _⟩ := I.hok d _ h
  rw [g] at g'
  cases g'
  exact ⟨g, xs, es, ep, r, h1, h2, h3⟩
theorem frz_at {o : Obj} {es : Array DictEntry} {ep : Nat} (I : Inv X pins σ H s) (h : H d = some (.frz o (.dT kvs))) (hd : o.data = .dict es ep) {i : Nat} {k : List Key} {v : V} (e : kvs[i]? = some (k, v)) :
    ∃ en b, es[i]? = some en /\ en.key = .ref b /\ H b = some (.tup (k.map kV)) /\ RelV v en.val := by
  obtain ⟨g, xs, es', ep', r, h1, h2, h3⟩ := frz_raw I h
  rw [hd] at h2
  cases h2
  obtain ⟨b, u, e1, e2, e3⟩ := KT.at r e
  have e4 : es.toList[i]? = some (entryOfKey (tupleKind (mixKind X.prog X.w)) (k, b, u)) := by rw [h3, List.getElem?_map, e1]; rfl
  exact ⟨_, b, by rw [Array.getElem?_toList] at e4; exact e4, rfl, e2, e3⟩
theorem Inv.freeze (I : Inv X pins σ H s) (h : H d = some (.dT kvs)) : ∃ o es ep, s.heap.get? d = some o /\ o.ExactDict /\ o.data = .dict es ep /\ (d == sysModules) = false /\ es.size = kvs.length /\ Inv X pins σ (upd H d (.frz o (.dT kvs))) s := by
  obtain ⟨z, y, xs, r, o, es, ep, g, h1, h2, h3, h4⟩ := I.hok d _ h
  refine ⟨o, es, ep, g, h1, h2, y, ?_, ?_⟩
  · have := congrArg List.length h3
    rw [List.length_map, <- Paired.length r] at this
    simpa using this
  · refine I.write (x := d) (e := d) (h' := s.heap) (t' := s.toks) (by rw [h]; exact True.intro) (.inl rfl) (fun _ _ _ q => q) ⟨o, g⟩ ⟨g, z, y, xs, KT.keeps r fun c ys ec => ?_, o, es, ep, g, h1, h2, h3, h4⟩
    rw [upd_ne (ne_of ec h (fun z => nomatch z))]
    exact ec
end
def viewO (v d : Addr) : HO := .ext fun h => h.IsItemsView v d
section
variable {X : Cx}
def rItems : V -> List V -> Hp -> VK -> Prop := fun x xs H Q => ∃ d kvs, x = .ref d /\ xs = [] /\ H d = some (.dT kvs) /\ ∀ v, H v = none -> Q (.ref v) (upd H v (viewO v d))
theorem mt_items : MtR X "dict.items" rItems := by
  intro pins s σ H x xs v us Q I rx r h
  obtain ⟨d, kvs, rfl, rfl, hd, q⟩ := h
  cases (show v = Value.ref d from rx)
  cases Vals.zero r
  obtain ⟨z, y, ys, rr, o, es, ep, g, h1, h2, h3, h4⟩ := I.hok d _ hd
  refine items_call y g h1 ⟨.ref s.heap.objs.size, _, I.laid (t' := s.toks) (o := viewO s.heap.objs.size d) (fun b ob q => Heap.get?_push_of_some _ q) (Nat.le_refl _) ?_, rfl, q _ (I.hok.fresh (Nat.le_refl _))⟩
  exact ⟨⟨_, Heap.get?_push_size _ rfl, rfl, rfl⟩, ⟨_, Heap.get?_push_size _ rfl⟩, fun h1 h2 p k => let ⟨u, e, r⟩ := p; ⟨u, k _ e, r⟩⟩
end
def ItDI (d : Addr) (o : Obj) (kvs : TTab) : It :=
  ⟨fun i H => H d = some (.frz o (.dT kvs)) /\ i < kvs.length, fun i H x H' => ∃ T b k v, x = .ref T /\ H T = none /\ kvs[i]? = some (k, v) /\ H b = some (.tup (k.map kV)) /\ H' = upd H T (.tup [.ref b, v]), fun i H => H d = some (.frz o (.dT kvs)) /\ kvs.length <= i⟩
theorem turn_di {P : Program} {w : World} {K : PySem.W.Frag} {elts : List Expr} {x1 : Nat} {tpos : Pos} (d it : Addr) (o : Obj) (es : Array DictEntry) (ep : Nat) (kvs : TTab) (hd : o.data = .dict es ep) (hn : es.size = kvs.length) :
    Turn P w K (.Tuple elts x1 tpos) (ItDI d o kvs) [it] it (fun i h => ∃ ok ov, IsItemIter h it d i es.size ep ok ov) where
  mem := by simp
  obj := fun i h st b hb => by
    have e : b = it := by simpa using hb
    subst e
    obtain ⟨_, _, e⟩ := st
    exact ⟨_, e, fun v z => by cases z⟩
  keep := fun i h h' st k => let ⟨ok, ov, e⟩ := st; ⟨ok, ov, k it (by simp) _ e⟩
  item := by
    intro X hP hw hK hc i pins s σ H E I hf st hg
    subst hP hw hK
    obtain ⟨hq, hi⟩ := hg
    obtain ⟨ok, ov, st⟩ := st
    obtain ⟨g, _⟩ := frz_raw I hq
    obtain ⟨⟨k, v⟩, ek⟩ : ∃ p, kvs[i]? = some p := ⟨kvs[i], by simp [hi]⟩
    obtain ⟨en, b, e1, e2, e3, e4⟩ := frz_at I hq hd ek
    refine items_next st g hd e1 fun h' a1 a2 a3 => ⟨_, rfl, ?_⟩
    refine wpAny_letOwnedTupleGo_items (s := { s with heap := h' }) a1 fun h2 b1 b2 => ?_
    replace b2 : Heap.SameBut it h' h2 := b2
    have el : it < s.heap.objs.size := Heap.lt_size st
    have kk : ∀ b o, b ∉ [it] -> s.heap.get? b = some o -> h2.get? b = some o := fun b o hb q => by
      simp at hb
      exact b2.extBut b o hb (a3 b o hb q)
    have tt : h2.get? s.heap.objs.size = some { cls := .type "tuple", data := .seq #[en.key, en.val] } := b2.extBut _ _ (Nat.ne_of_gt el) a2
    have fr : H s.heap.objs.size = none := I.hok.fresh (Nat.le_refl _)
    refine ⟨.ref s.heap.objs.size, upd H s.heap.objs.size (.tup [.ref b, v]), I.turnNew (t' := s.toks) hf kk (Nat.le_refl _) ?_, rfl, ⟨_, b, k, v, rfl, fr, ek, e3, rfl⟩, ⟨_, _, b1⟩, fun c hc => ?_⟩
    · exact ⟨by show 2 <= sizeLine; decide, [en.key, en.val], .cons e2 (.cons e4 .nil), ⟨_, tt, rfl, 0, rfl⟩⟩
    · rw [upd_ne]
      · exact (hf c hc).1
      · rw [List.mem_singleton.mp hc]
        exact Nat.ne_of_lt el
  done := by
    intro X hP hw hK hc i pins s σ H E I hf st hg
    subst hP hw hK
    obtain ⟨hq, hi⟩ := hg
    obtain ⟨ok, ov, st⟩ := st
    obtain ⟨g, _⟩ := frz_raw I hq
    exact items_end (I.ok.hd hc) st g hd (by lia) fun h' q => ⟨rfl, I.turnM (t' := s.toks) hf fun b o hb z => q b o (fun y => hb (by simp [y])) z⟩
  self := fun _ _ _ _ _ st h => let ⟨_, _, he⟩ := st; PySem.W.kcp_self he h
def iDI (tv : TE) : TI := fun σ H R => tv σ H fun x H1 => ∃ v d kvs, x = .ref v /\ H1 v = some (viewO v d) /\ H1 d = some (.dT kvs) /\ ∀ o, R (ItDI d o kvs) (upd H1 d (.frz o (.dT kvs)))
theorem pi_ditems {X : Cx} {elts : List Expr} {x1 : Nat} {tpos : Pos} {l : Expr} {tl : TE} (hl : PE X l tl) : PI X (.Tuple elts x1 tpos) l (iDI tl) := by
  intro pins s σ H R I h
  refine thn (hl pins s σ H _ I h) fun u s1 ⟨x, H1, I1, r1, q1⟩ => ?_
  obtain ⟨v, d, kvs, rfl, hv, hq, q⟩ := q1
  cases (show u = Value.ref v from r1)
  obtain ⟨vw, _⟩ := I1.hok v _ hv
  obtain ⟨o, es, ep, g, y1, y2, y, hn, I2⟩ := I1.freeze hq
  refine items_iter vw g y2 ?_
  refine ⟨s1.heap.objs.size, [s1.heap.objs.size], _, _, upd H1 d (.frz o (.dT kvs)), rfl, I2.kept (t' := s1.toks) fun b o e => Heap.get?_push_of_some _ e, turn_di d _ o es ep kvs y2 hn, ⟨_, _, Heap.get?_push_size _ rfl⟩, fun b hb => ?_, q o⟩
  have e : b = s1.heap.objs.size := by simpa using hb
  subst e
  exact I2.fpOk (Nat.le_refl _) (I2.hok.fresh (Nat.le_refl _))
theorem comp_di {d : Addr} {o : Obj} {kvs : TTab} {g : TG} {tt : TT} {te : TE} {fin : List V -> Hp -> Prop} {σ : St} {H : Hp} (S : St -> Prop) (Pv : Nat -> List V -> Hp -> Prop) (hσ : S σ) (h0 : Pv 0 [] H) (hz : kvs.length < sizeLine)
    (hl : ∀ i ys H, Pv i ys H -> H d = some (.frz o (.dT kvs)))
    (hs : ∀ (i : Nat) (T b : Addr) (k : List Key) (v : V) (ys : List V) (σ : St) (H : Hp) (N : List V -> St -> Hp -> Prop), kvs[i]? = some (k, v) -> H T = none -> H b = some (.tup (k.map kV)) -> S σ -> Pv i ys H -> (∀ ys' σ' H', S σ' -> Pv (i + 1) ys' H' -> ys'.length <= ys.length + 1 -> N ys' σ' H') ->
      g (.ref T) σ (upd H T (.tup [.ref b, v])) fun σ2 H2 => tt σ2 H2 fun b H3 => if b = true then te σ2 H3 fun y H4 => N (ys ++ [y]) σ2 H4 else N ys σ2 H3)
    (hd : ∀ ys H, Pv kvs.length ys H -> fin ys H) : ∃ W, CompW (ItDI d o kvs) g tt te fin W /\ ∃ m, W 0 m [] σ H := by
  refine ⟨fun i m ys σ H => m = kvs.length - i /\ i <= kvs.length /\ ys.length <= i /\ S σ /\ Pv i ys H, ?_, kvs.length, by simp, Nat.zero_le _, Nat.le_refl _, hσ, h0⟩
  rintro i m ys σ H ⟨rfl, hi, hy, hS, p⟩
  by_cases hlt : i < kvs.length
  · refine .inr ⟨⟨hl i ys H p, hlt⟩, by lia, fun x H' y => ?_⟩
    obtain ⟨T, b, k, v, rfl, hT, ek, eb, rfl⟩ := y
    exact hs i T b k v ys σ _ (fun ys' σ' H'' => ∃ m', m' < kvs.length - i /\ m' = kvs.length - (i + 1) /\ i + 1 <= kvs.length /\ ys'.length <= i + 1 /\ S σ' /\ Pv (i + 1) ys' H'') ek hT eb hS p (fun ys' σ' H'' a b c => ⟨_, by lia, rfl, hlt, by lia, a, b⟩)
  · have e : i = kvs.length := by lia
    subst e
    exact .inl ⟨⟨hl _ ys H p, Nat.le_refl _⟩, by lia, hd ys H p⟩
end L2
namespace L2
open PySem PySem.W PyProof.Rows
structure Ord (lt : Nat -> Nat -> Bool) : Prop where
  as : ∀ i j, lt i j = true -> lt j i = false
  tr : ∀ i j k, lt j i = false -> lt k j = false -> lt k i = false
theorem Ord.rf {lt : Nat -> Nat -> Bool} (o : Ord lt) (i : Nat) : lt i i = false := by
  cases h : lt i i with
  | false => rfl
  | true => have := o.as i i h; rw [h] at this; exact this
structure PB (N : Nat) (p : Array Nat) : Prop where
  perm : p.Perm (List.range N).toArray
theorem PB.size {N : Nat} {p : Array Nat} (h : PB N p) : p.size = N := by have := h.perm.size_eq; simpa using this
theorem PB.lt {N : Nat} {p : Array Nat} (h : PB N p) {i : Nat} (hi : i < N) : p.getD i 0 < N := by
  have hs : i < p.size := by rw [h.size]; exact hi
  have e : p.getD i 0 = p[i] := by simp [Array.getD, hs]
  rw [e]
  have hm : p[i] ∈ p := Array.getElem_mem hs
  have := h.perm.mem_iff.mp hm
  simpa using this
theorem PB.rev {N : Nat} {p : Array Nat} (h : PB N p) (i j : Nat) : PB N (kas_rev p i j) := ⟨(mirror_perm p i j _).trans h.perm⟩
theorem PB.bub {N : Nat} {p : Array Nat} (h : PB N p) (i j : Nat) : PB N (bubble p i j) := ⟨(bubble_perm p i j).trans h.perm⟩
theorem getD_of {xs ys : Array Nat} {i j : Nat} (h : xs[i]? = ys[j]?) : xs.getD i 0 = ys.getD j 0 := by
  rw [Array.getD_eq_getD_getElem?, Array.getD_eq_getD_getElem?, h]
theorem rev_at {N : Nat} {p : Array Nat} (h : PB N p) {i j : Nat} (hj : j <= N) (k : Nat) : (kas_rev p i j).getD k 0 = if i <= k /\ k < j then p.getD (i + j - 1 - k) 0 else p.getD k 0 := by
  have e := getElem?_mirror_all (xs := p) (i := i) (j := j) (by rw [h.size]; exact hj) k
  unfold kas_rev
  by_cases c : i <= k /\ k < j
  · rw [if_pos c] at e ⊢; exact getD_of e
  · rw [if_neg c] at e ⊢; exact getD_of e
theorem bub_at {N : Nat} {p : Array Nat} (h : PB N p) {k l : Nat} (hk : k < N) (hl : l <= k) (i : Nat) :
    (bubble p k (k - l)).getD i 0 = if i = l then p.getD k 0 else if l < i /\ i <= k then p.getD (i - 1) 0 else p.getD i 0 := by
  have e := getElem?_bubble (xs := p) (src := k) (by rw [h.size]; exact hk) (k - l) (by lia) i
  rw [show k - (k - l) = l by lia] at e
  by_cases c : i = l
  · rw [if_pos c] at e ⊢; exact getD_of e
  · rw [if_neg c] at e ⊢
    by_cases c2 : l < i /\ i <= k
    · rw [if_pos c2] at e ⊢; exact getD_of e
    · rw [if_neg c2] at e ⊢; exact getD_of e
section
variable {lt : Nat -> Nat -> Bool} {N : Nat}
def Up (lt : Nat -> Nat -> Bool) (p : Array Nat) (m : Nat) : Prop := ∀ i j, i <= j -> j < m -> lt (p.getD j 0) (p.getD i 0) = false
def Flat (lt : Nat -> Nat -> Bool) (p : Array Nat) (a b : Nat) : Prop := ∀ i j, a <= i -> i < b -> a <= j -> j < b -> lt (p.getD i 0) (p.getD j 0) = false
end
end L2
namespace L2
open PySem PySem.W PyProof.Rows
section
variable {prog : Program} {w : World} {A : Around} {E : Value -> Shared -> Prop} {s : Shared}
def Asks (prog : Program) (w : World) (s : Shared) (lt : Nat -> Nat -> Bool) (vs : List Value) : Prop :=
  ∀ (A : Around) (h' : Heap), (∀ b u, s.heap.get? b = some u -> h'.get? b = some u) -> 2 <= vs.length -> ∃ κ : SortKind, (∀ (E : Value -> Shared -> Prop) (Q : SortKind -> Shared -> Prop), Q κ { s with heap := h' } -> wpAny (model prog w) A (keyKind' vs.toArray) Q E { s with heap := h' }) /\
    ∀ (i j : Nat) (C : Bool -> Shared -> Prop), i < vs.length -> j < vs.length -> C (lt i j) { s with heap := h' } -> wpAny (model prog w) A (keyLt' κ (vs.getD i Value.none) (vs.getD j Value.none)) C (fun _ _ => False) { s with heap := h' }
def outOf (vs : List Value) (p : Array Nat) : List Value := p.toList.map fun i => vs.getD i Value.none
theorem sort_one {vs : List Value} (h : ¬ vs.length >= 2) : outOf vs (List.range vs.length).toArray = vs := by
  unfold outOf
  match vs with
  | [] => rfl
  | [v] => rfl
  | _ :: _ :: _ => simp at h
theorem zip_snd (vs : List Value) : (vs.toArray.zip vs.toArray).map (·.2) = vs.toArray := by
  apply Array.toList_inj.mp
  rw [Array.toList_map, Array.toList_zip]
  exact List.map_snd_zip (Nat.le_refl _)
end
end L2
namespace L2
open PySem PySem.W PyProof.Rows
theorem lex_as : ∀ (a b : List Int), HT.lexLt a b = true -> HT.lexLt b a = false
  | [], [], h => by cases h
  | [], _ :: _, _ => rfl
  | _ :: _, [], h => by cases h
  | x :: xs, y :: ys, h => by
    rw [HT.lexLt_cons] at h ⊢
    by_cases e : x = y
    · rw [if_pos e] at h; rw [if_pos e.symm]; exact lex_as xs ys h
    · rw [if_neg e] at h; rw [if_neg (Ne.symm e)]
      have := of_decide_eq_true h
      exact decide_eq_false (by lia)
theorem lex_tr : ∀ (a b c : List Int), HT.lexLt b a = false -> HT.lexLt c b = false -> HT.lexLt c a = false
  | [], [], c, _, h => h
  | [], _ :: _, [], _, h => by cases h
  | [], _ :: _, _ :: _, _, _ => rfl
  | _ :: _, [], _, h, _ => by cases h
  | x :: xs, y :: ys, [], _, h => by cases h
  | x :: xs, y :: ys, z :: zs, h1, h2 => by
    rw [HT.lexLt_cons] at h1 h2 ⊢
    by_cases e1 : y = x
    · rw [if_pos e1] at h1
      by_cases e2 : z = y
      · rw [if_pos e2] at h2
        rw [if_pos (e2.trans e1)]
        exact lex_tr xs ys zs h1 h2
      · rw [if_neg e2] at h2
        rw [if_neg (fun q => e2 (q.trans e1.symm))]
        have := of_decide_eq_false h2
        exact decide_eq_false (by lia)
    · rw [if_neg e1] at h1
      have g1 := of_decide_eq_false h1
      by_cases e2 : z = y
      · rw [if_neg (fun q => e1 (e2.symm.trans q))]
        exact decide_eq_false (by lia)
      · rw [if_neg e2] at h2
        have g2 := of_decide_eq_false h2
        rw [if_neg (by lia)]
        exact decide_eq_false (by lia)
theorem lex_ord (kss : List (List Int)) : Ord fun i j => HT.lexLt (kss.getD i []) (kss.getD j []) := ⟨fun _ _ h => lex_as _ _ h, fun _ _ _ h1 h2 => lex_tr _ _ _ h1 h2⟩
def lexZ (fin : Bool) : List Int -> List Int -> Bool
  | x :: xs, y :: ys => if x = y then lexZ fin xs ys else decide (x < y)
  | _, _ => fin
theorem lexZ_eq : ∀ (a b : List Int), lexZ (decide (a.length < b.length)) a b = HT.lexLt a b
  | [], [] => rfl
  | [], _ :: _ => by show decide _ = true; simp
  | _ :: _, [] => by show decide _ = false; simp
  | x :: xs, y :: ys => by
    rw [HT.lexLt_cons]
    show (if x = y then lexZ _ xs ys else decide (x < y)) = _
    have : decide ((x :: xs).length < (y :: ys).length) = decide (xs.length < ys.length) := by simp
    rw [this, lexZ_eq xs ys]
section
variable {prog : Program} {w : World} {A : Around} {E : Value -> Shared -> Prop} {s : Shared}
theorem ints_lex {fin : Bool} {Q : Bool -> Shared -> Prop} : ∀ {us : List Value} {ks : List Int} {ws : List Value} {ms : List Int} (i : Nat), IntsAre us ks -> IntsAre ws ms -> Q (lexZ fin ks ms) s -> KatLex prog w A true fin Q (us.zip ws) i s
  | _, _, _, _, _, .nil, _, q => kat_nil q
  | _, _, _, _, _, .cons _ _ _, .nil, q => kat_nil q
  | _, _, _, _, i, .cons (vs := us) (ns := ks) x t h1, .cons (vs := ws) (ns := ms) y u h2, q => by
    refine kat_cons (wpAny_eqBool_int (kat_go (fun e => kat_yes (ints_lex (i + 1) h1 h2 ?_)) fun e => kat_no ?_))
    · have : x = y := by simpa using e
      have z : lexZ fin (x :: ks) (y :: ms) = lexZ fin ks ms := by show (if x = y then _ else _) = _; rw [if_pos this]
      rw [z] at q; exact q
    · have : ¬ x = y := by simpa using e
      have z : lexZ fin (x :: ks) (y :: ms) = decide (x < y) := by show (if x = y then _ else _) = _; rw [if_neg this]
      rw [z] at q
      cases h0 : (true && i == 0) with
      | true => exact oneLt_int q
      | false => exact kat_one _ _ (lt_int q)
def TupI (h : Heap) (v : Value) (ks : List Int) : Prop := ∃ a o xs n, v = .ref a /\ h.get? a = some o /\ o.cls = .type "tuple" /\ o.data = .seq xs n /\ IntsAre xs.toList ks
theorem TupI.kept {h h' : Heap} {v : Value} {ks : List Int} (x : TupI h v ks) (k : ∀ b u, h.get? b = some u -> h'.get? b = some u) : TupI h' v ks := let ⟨a, o, xs, n, e, g, r⟩ := x; ⟨a, o, xs, n, e, k _ _ g, r⟩
theorem ints_first {us : List Value} {x : Int} {ks : List Int} (h : IntsAre us (x :: ks)) : ∃ t, us[0]? = some (.int x t) := by
  cases h with
  | cons _ t _ => exact ⟨t, rfl⟩
theorem tups_firsts {h : Heap} : ∀ {vs : List Value} {kss : List (List Int)}, Paired (TupI h) vs kss -> (∀ ks ∈ kss, ks ≠ []) -> ∃ fs, KatTups h vs fs /\ fs.length = vs.length /\ ∀ f ∈ fs, ∃ x t, f = .int x t
  | _, _, .nil, _ => ⟨[], .nil, rfl, fun f hf => nomatch hf⟩
  | _, _, .cons (b := ks) r t, hne => by
    obtain ⟨fs, k, l, a⟩ := tups_firsts t fun ks hk => hne ks (List.mem_cons_of_mem _ hk)
    obtain ⟨ad, o, xs, n, rfl, g, hc, hd, hi⟩ := r
    cases ks with
    | nil => exact absurd rfl (hne _ (List.mem_cons_self ..))
    | cons x ks =>
      obtain ⟨tk, e⟩ := ints_first hi
      refine ⟨.int x tk :: fs, .cons g hc hd (by rw [Array.getElem?_toList] at e; exact e) k, by simp [l], fun f hf => ?_⟩
      rcases List.mem_cons.mp hf with rfl | hf
      · exact ⟨x, tk, rfl⟩
      · exact a f hf
theorem asks_tups {vs : List Value} {kss : List (List Int)} (h : Paired (TupI s.heap) vs kss) (hne : ∀ ks ∈ kss, ks ≠ []) : Asks prog w s (fun i j => HT.lexLt (kss.getD i []) (kss.getD j [])) vs := by
  intro A h' keep two
  have h2 : Paired (TupI h') vs kss := Paired.mapP h fun _ _ x => x.kept keep
  refine ⟨tuples' true, fun E Q q => ?_, fun i j C hi hj q => ?_⟩
  · obtain ⟨fs, k, l, a⟩ := tups_firsts h2 hne
    have e : (Value.type "int" != Value.type "tuple") = true := by decide
    refine kat_kind (T := .type "int") k (by lia) (fun f hf => ?_) (by decide) (by rw [e]; exact q)
    obtain ⟨x, t, rfl⟩ := a f hf
    exact .now
  · have gi : ∀ i, i < vs.length -> ∃ v ks, vs.getD i Value.none = v /\ kss.getD i [] = ks /\ TupI h' v ks := fun i hi => by
      obtain ⟨ks, e, r⟩ := Paired.at h2 (i := i) (a := vs[i]) (by simp [hi])
      exact ⟨vs[i], ks, by simp [hi], by rw [List.getD_eq_getElem?_getD, e]; rfl, r⟩
    obtain ⟨v, ks, ev, ek, a, o, xs, n, rfl, g, _, hd, hI⟩ := gi i hi
    obtain ⟨u, ms, eu, em, b, o2, ys, n2, rfl, g2, _, hd2, hI2⟩ := gi j hj
    rw [ev, eu]
    refine kat_lt (s := { s with heap := h' }) g hd g2 hd2 (ints_lex 0 hI hI2 ?_)
    have l1 : xs.size = ks.length := by have := hI.length; simpa using this
    have l2 : ys.size = ms.length := by have := hI2.length; simpa using this
    rw [l1, l2, lexZ_eq]
    have q' : C (HT.lexLt (kss.getD i []) (kss.getD j [])) { s with heap := h' } := q
    rw [ek, em] at q'
    exact q'
end
def IntsAt (H : Hp) (v : V) (ks : List Int) : Prop := ∃ a, v = .ref a /\ H a = some (.tup (ks.map V.int))
def LexLe (a b : List Int) : Prop := HT.lexLt b a = false
section
variable {X : Cx}
theorem paired_map {α β γ : Type} {F : α -> β -> Prop} {f : γ -> α} {g : γ -> β} : ∀ {l : List γ}, (∀ c ∈ l, F (f c) (g c)) -> Paired F (l.map f) (l.map g)
  | [], _ => .nil
  | c :: l, h => .cons (h c (List.mem_cons_self ..)) (paired_map fun d hd => h d (List.mem_cons_of_mem _ hd))
theorem range_getD {α : Type} (l : List α) (d : α) : (List.range l.length).map (fun i => l.getD i d) = l := by
  apply List.ext_getElem
  · simp
  · intro i h1 h2
    simp at h1
    simp [h1]
theorem PB.list {N : Nat} {p : Array Nat} (h : PB N p) : p.toList.Perm (List.range N) := by
  have := Array.perm_iff_toList_perm.mp h.perm
  simpa using this
end
end L2
namespace L2
open PySem PySem.Spec PyProof.Rows
theorem for_seq {k : Kd} {K : PySem.W.Frag} {a : Addr} {xs : List V} {g : TG} {tb : TS} {D : Ends} {σ : St} {H : Hp} (Pv : Nat -> St -> Hp -> Prop) (h0 : Pv 0 σ H) (hl : ∀ i σ H, i <= xs.length -> Pv i σ H -> SqK k K H a xs)
    (hs : ∀ i x σ H, xs[i]? = some x -> Pv i σ H -> g x σ H fun σ2 H2 => tb { D with nx := Pv (i + 1), ct := Pv (i + 1), bk := D.nx } σ2 H2) (hd : ∀ σ H, Pv xs.length σ H -> D.nx σ H) :
    ∃ W : Nat -> Nat -> St -> Hp -> Prop, (∃ m, W 0 m σ H) /\ ∀ i m σ H, W i m σ H ->
      ((ItK k K a).stop i H /\ D.nx σ H) \/ ((ItK k K a).go i H /\ ∃ N : St -> Hp -> Prop, (∀ σ' H', N σ' H' -> ∃ m', m' < m /\ W (i + 1) m' σ' H') /\ ∀ x H', (ItK k K a).yld i H x H' -> g x σ H' fun σ2 H2 => tb { D with nx := N, ct := N, bk := D.nx } σ2 H2) := by
  cases k with
  | l => exact for_list Pv h0 hl hs hd
  | t => exact for_tup Pv h0 hl hs hd
section
variable {X : Cx}
theorem op_mulB : OpR X (binaryOp .Mult) (rI IntMulOk fun i j => .int (i * j)) := opI fun _ _ _ _ _ _ _ hc q => mul_int q hc
theorem preSum_eq (ns : List Int) : ∀ j, j <= ns.length -> preSum (fun i => ns.getD i 0) j = (ns.take j).sum
  | 0, _ => rfl
  | j + 1, h => by
    have e : ns[j]? = some ns[j] := by simp [show j < ns.length by lia]
    show preSum _ j + ns.getD j 0 = _
    rw [preSum_eq ns j (by lia), take_succ_of e, List.sum_append]
    simp [show j < ns.length by lia]
theorem call_sumE (hc : X.calm = true) : CallR X (.builtin "sum") (fun xs H Q => ∃ (p : Addr) (ns : List Int), xs = [.ref p] /\ SqL X.K H p (ns.map V.int) /\ Q (.int ns.sum) H) := by
  intro pins s σ H xs us Q I r h
  obtain ⟨p, ns, rfl, hp, q⟩ := h
  obtain ⟨u, rfl, ru⟩ := Vals.one r
  cases (show u = Value.ref p from ru)
  obtain ⟨its, r1, t1, _⟩ := I.list hp
  have hh : X.A.in1.handled = none := I.ok.hd hc
  have hlt : p < s.heap.objs.size := by obtain ⟨_, e, _⟩ := t1.isList; exact Heap.lt_size e
  have il : its.length = ns.length := by have := r1.length; rw [List.length_map] at this; lia
  refine call_sum_walkG (wpAny_pyIter_list t1.isList ⟨_, _, _, _, _, _, fun i => ns.getD i 0, rfl, Walks.list hh _ p (Nat.ne_of_lt hlt) its.toArray, ⟨⟨_, Heap.get?_push_size _ rfl, rfl, rfl⟩, t1.isList.push _⟩, ?_, ?_, ?_⟩)
  · intro c hc
    show c < (s.heap.push _).objs.size
    rw [Heap.size_push]
    rcases List.mem_cons.mp hc with rfl | hc
    · exact Nat.lt_succ_self _
    · rw [List.mem_singleton.mp hc]; exact Nat.lt_succ_of_lt hlt
  · intro i v e
    have e' : its[i]? = some v := by simpa using e
    have hl : i < its.length := (List.getElem?_eq_some_iff.mp e').1
    have hb : i < ns.length := by lia
    obtain ⟨u, e1, t, e2⟩ := r1.get (i := i) (x := V.int ns[i]) (by simp [hb])
    rw [e1] at e'
    cases e'
    exact ⟨t, by rw [e2]; simp [List.getD, hb]⟩
  · intro h' tk t' hk
    have e : preSum (fun i => ns.getD i 0) its.toArray.size = ns.sum := by
      rw [List.size_toArray, il, preSum_eq ns _ (Nat.le_refl _), List.take_length]
    exact ⟨.int ns.sum, H, I.kept (kept_iter hk), ⟨t', by rw [e]⟩, q⟩
end
section
open PySem.SeqAt
open PySem.AutoSeq1 (wpAny_loadPart')
open PySem.MeetsSeq PySem.MeetsSeq2 PySem.MeetsSeq3
def GeAt (A : Around) (s : Shared) (v u : Value) (r : Bool) : Prop := ∀ (prog : Program) (w : World) (E : Value -> Shared -> Prop) (Q : Value -> Shared -> Prop), Q (.bool r) s -> wpAny (model prog w) A (richCompare .GtE v u) Q E s
inductive CmpG (A : Around) (s : Shared) (z : Bool) : List Value -> List Value -> Bool -> Prop
  | nilL (ws : List Value) : CmpG A s z [] ws z
  | nilR (v : Value) (vs : List Value) : CmpG A s z (v :: vs) [] z
  | eq {v u : Value} {vs ws : List Value} {b : Bool} (e : EqAt A s v u true) (t : CmpG A s z vs ws b) : CmpG A s z (v :: vs) (u :: ws) b
  | ne {v u : Value} {vs ws : List Value} {r : Bool} (e : EqAt A s v u false) (t : GeAt A s v u r) : CmpG A s z (v :: vs) (u :: ws) r
theorem tuple_geL (l b : Addr) (items items2 : Array Value) (n n2 : Nat) (dd dd2 : Option Addr) (sl sl2 : Array (Option Value)) (out : Bool) :
    Meets (Builtin.«tuple.__ge__» ⟨[.ref l, .ref b], []⟩)
      (fun A R s => s.heap.get? l = some { cls := .type "tuple", dict := dd, data := .seq items n, slots := sl } /\ s.heap.get? b = some { cls := .type "tuple", dict := dd2, data := .seq items2 n2, slots := sl2 } /\
        CmpG A.in1 s (decide (items2.size <= items.size)) items.toList items2.toList out /\ R (.ok (.ret (.bool out))) s) :=
  .of_wp fun prog w A R s h => by
    obtain ⟨hp, g, d, tk, os⟩ := s
    obtain ⟨hl, hb, hc, h⟩ := h
    have f2 := AutoSeq1.sub_tuple_tuple
    wp_walk using wpAny_loadPart' hl, wpAny_loadPart' hb, wpAny_forIn_list _ (fun rest b s' => b.1 = none /\ s' = ⟨hp, g, d, tk, os⟩ /\ ∃ (vs ws : List Value), rest = vs.zip ws /\ CmpG A.in1 ⟨hp, g, d, tk, os⟩ (decide (items2.size <= items.size)) vs ws out) _
    case turn =>
      rintro ⟨y, x⟩ rest b s' ⟨hb', rfl, vs, ws, hz, hcl⟩
      cases hcl with
      | nilL ws => rw [List.zip_nil_left] at hz; cases hz
      | nilR v vs => rw [List.zip_nil_right] at hz; cases hz
      | eq e t =>
        rw [List.zip_cons_cons] at hz
        injection hz with hyx hrest
        injection hyx with hy hx
        subst hy hx
        refine wpAny_bind (e prog w _ _ ?_)
        wp_walk
        exact ⟨rfl, rfl, _, _, hrest, t⟩
      | ne e t =>
        rw [List.zip_cons_cons] at hz
        injection hz with hyx hrest
        injection hyx with hy hx
        subst hy hx
        refine wpAny_bind (e prog w _ _ ?_)
        have hri := t prog w
        wp_walk using hri
        exact ⟨_, rfl, h⟩
    case fin =>
      rintro ⟨b1, b2⟩ s' ⟨hb', rfl, vs, ws, hz, hcl⟩
      simp only at hb'
      subst hb'
      have ho : out = decide (items2.size <= items.size) := by
        cases hcl with
        | nilL ws => rfl
        | nilR v vs => rfl
        | eq e t => rw [List.zip_cons_cons] at hz; cases hz
        | ne e t => rw [List.zip_cons_cons] at hz; cases hz
      rw [ho] at h
      wp_walk
      exact ⟨_, rfl, by simpa [Builtin.Tuple.tupleCompareSizes] using h⟩
    case h =>
      exact ⟨rfl, rfl, items.toList, items2.toList, rfl, hc⟩
theorem GeAt.tuples {A : Around} {s : Shared} {l b : Addr} {its its2 : List Value} {out : Bool} (hl : s.heap.IsTuple l its.toArray) (hb : s.heap.IsTuple b its2.toArray) (hu : A.units < cLine) (hc : CmpG A.in1 s (decide (its2.length <= its.length)) its its2 out) : GeAt A s (.ref l) (.ref b) out := by
  intro prog w E Q h
  obtain ⟨⟨cls, dd, data, sl⟩, ho, hc1, n, hd⟩ := id hl
  obtain ⟨⟨cls2, dd2, data2, sl2⟩, ho2, hc2, n2, hd2⟩ := id hb
  simp only at hc1 hd hc2 hd2
  subst hc1 hd hc2 hd2
  exact richCompare_meets_room (op := .GtE) ⟨_, ho, rfl⟩ ⟨_, ho2, rfl⟩ PySem.F.slot_tuple_ge PySem.F.entry_tuple_ge (PySem.F.args_tuple_ge_2 _ _) (tuple_geL l b its.toArray its2.toArray n n2 dd dd2 sl sl2 out)
    ⟨ho, ho2, by simpa using hc, show Value.bool out ≠ Value.notImplemented /\ Q (.bool out) s from ⟨(fun x => nomatch x), h⟩⟩ hu
theorem GeAt.int_int {A : Around} {s : Shared} (a : Int) (t : Tok) (c : Int) (u : Tok) : GeAt A s (.int a t) (.int c u) (decide (c <= a)) := fun prog w E Q h => (ge_int h : wpAny (model prog w) A (compareOp .GtE (.int a t) (.int c u)) Q E s)
end
def lexGe (z : Bool) : List Int -> List Int -> Bool
  | x :: xs, y :: ys => if x = y then lexGe z xs ys else decide (y <= x)
  | _, _ => z
theorem cmpg_ints {A : Around} {s : Shared} {z : Bool} : ∀ {ns ms : List Int} {us ws : List Value}, Vals (ns.map V.int) us -> Vals (ms.map V.int) ws -> CmpG A s z us ws (lexGe z ns ms)
  | [], _, _, _, r, _ => by rw [List.map_nil] at r; cases r; exact .nilL _
  | x :: ns, [], _, _, r, q => by
    rw [List.map_nil] at q; cases q
    rw [List.map_cons] at r
    cases r with
    | cons _ _ => exact .nilR _ _
  | x :: ns, y :: ms, _, _, r, q => by
    rw [List.map_cons] at r q
    cases r with
    | cons rx rt =>
      cases q with
      | cons qy qt =>
        obtain ⟨t, rfl⟩ := rx
        obtain ⟨u, rfl⟩ := qy
        by_cases e : x = y
        · have z1 : lexGe z (x :: ns) (y :: ms) = lexGe z ns ms := by show (if x = y then _ else _) = _; rw [if_pos e]
          rw [z1]
          refine .eq ?_ (cmpg_ints rt qt)
          have := SeqAt.EqAt.int_int (A := A) (s := s) x t y u
          rw [beq_iff_eq.mpr e] at this
          exact this
        · have z1 : lexGe z (x :: ns) (y :: ms) = decide (y <= x) := by show (if x = y then _ else _) = _; rw [if_neg e]
          rw [z1]
          refine .ne ?_ (GeAt.int_int x t y u)
          have := SeqAt.EqAt.int_int (A := A) (s := s) x t y u
          rw [beq_eq_false_iff_ne.mpr e] at this
          exact this
section
variable {X : Cx}
def rGeT (K : PySem.W.Frag) : R2 := fun x y H Q => ∃ a b ns ms, x = .ref a /\ y = .ref b /\ SqT K H a (ns.map V.int) /\ SqT K H b (ms.map V.int) /\ Q (.bl (lexGe (decide (ms.length <= ns.length)) ns ms)) H
theorem op_geT (hu : X.A.units + 66 < cLine) : OpR X (compareOp .GtE) (rGeT X.K) := by
  intro pins s σ H x y v u Q I rx ry h
  obtain ⟨a, b, ns, ms, rfl, rfl, ha, hb, q⟩ := h
  cases (show v = Value.ref a from rx)
  cases (show u = Value.ref b from ry)
  obtain ⟨its, r1, p1, _⟩ := I.tuple ha
  obtain ⟨its2, r2, p2, _⟩ := I.tuple hb
  have l1 : its.length = ns.length := by have := r1.length; rw [List.length_map] at this; lia
  have l2 : its2.length = ms.length := by have := r2.length; rw [List.length_map] at this; lia
  refine GeAt.tuples p1 p2 (by lia) ?_ X.prog X.w X.xe _ ⟨.bl (lexGe (decide (ms.length <= ns.length)) ns ms), H, I, rfl, q⟩
  rw [l1, l2]
  exact cmpg_ints r1 r2
end
section
variable {prog : Program} {w : World} {A : Around} {E : Value -> Shared -> Prop} {s : Shared} {it l : Addr} {its : Array Value}
theorem lookup_rev_len : typeLookup (.type "list_reverseiterator") "__len__" = pure none := by rw [typeLookup_type, builtinLookup_eq_fast]; kernel_rfl
theorem lookup_rev_hint : typeLookup (.type "list_reverseiterator") "__length_hint__" = pure (some (.builtin "list_reverseiterator.__length_hint__")) := by rw [typeLookup_type, builtinLookup_eq_fast]; kernel_rfl
theorem hint_rev {i : Int} {Q : Bool -> Shared -> Prop} (hr : s.heap.IsRevIter it l i) (h : Q false s) : wpAny (model prog w) A (Builtin.List.listLengthHint (.ref it)) Q E s := by
  unfold Builtin.List.listLengthHint
  refine wpAny_bind (wpAny_specialOf hr.typeIs lookup_rev_len ?_)
  refine wpAny_ite_split (fun hab => absurd hab (by decide)) (fun _ => ?_)
  refine wpAny_ite_split (fun hab => absurd hab (by decide)) (fun _ => ?_)
  refine wpAny_bind (wpAny_specialOf hr.typeIs lookup_rev_hint ?_)
  generalize hid : ("list_reverseiterator.__length_hint__" : String) = id0
  wp_delta
  rw [show splitId id0 = some ("list_reverseiterator", "__length_hint__") from by subst hid; decide +kernel]
  subst hid
  refine wpAny_bind (wpAny_isInstance (T := "list_reverseiterator") (b := true) hr.typeIs (by rw [isSubtype_type]; kernel_rfl) ?_)
  refine wpAny_ite_split (fun hab => absurd hab (by decide)) (fun _ => ?_)
  refine wpAny_ite_split (fun _ => ?_) (fun hab => absurd (by decide +kernel) hab)
  refine wpAny_ite_split (fun hab => absurd hab (by decide +kernel)) (fun _ => ?_)
  exact wpAny_pure h
theorem extend_rev {R : Result -> Shared -> Prop} (hh : A.handled = none) (hr : s.heap.IsRevIter it l ((its.size : Int) - 1)) (hl : s.heap.IsList l its) (hz : its.size <= 1000) (S : Addr) (res : Value) (c : Nat) (hS : s.heap.get? S = some { cls := .type "list", data := .seq #[] c }) (nl : S ≠ l)
    (q : ∀ h' tk acc c', (∀ b o, b ≠ S -> b ≠ it -> s.heap.get? b = some o -> h'.get? b = some o) -> h'.get? S = some { cls := .type "list", dict := none, data := .seq acc c', slots := #[] } ->
      ItemsOf (fun i v => its[its.size - 1 - i]? = some v) acc its.size -> R (.ok (.ret res)) { s with heap := h', toks := tk }) :
    wpAny (model prog w) A.in1 (Builtin.List.listExtendWith (.ref S) (.ref it) res)
      (fun fin s' => match fin with | .done f => R (.ok f) s' | .again c' => c'.quiet = true /\ codeAny (model prog w) A c' R s') (fun e s' => R (.error e) s') s := by
  obtain ⟨o, ho, hc, hd⟩ := id hr
  have ni : S ≠ it := fun e => by
    rw [<- e, hS] at ho
    cases ho
    cases hd
  have li : l ≠ it := fun e => by
    obtain ⟨o2, h1, h2, _⟩ := id hl
    rw [e, ho] at h1
    cases h1
    rw [hc] at h2
    exact absurd h2 (by decide)
  have Wk := (Walks.listRev (prog := prog) (w := w) (A := A.in1) hh it l li its).toS
  unfold Builtin.List.listExtendWith
  refine wpAny_bind (wpAny_typeOf (T := "list_reverseiterator") hr.typeIs ?_)
  simp only [show Builtin.List.listSameRef (.ref S) (.ref it) = false from by simp [Builtin.List.listSameRef, ni], show (Value.type "list_reverseiterator" == Value.type "list") = false from by decide, show (Value.type "list_reverseiterator" == Value.type "tuple") = false from by decide, Bool.or_false, Bool.false_eq_true, if_false]
  refine wpAny_bind (wpAny_pyIter_revIter hr (wpAny_bind (wpAny_holding (hint_rev hr ?_))))
  refine wpAny_ite_split (fun hab => absurd hab (by decide)) (fun _ => wpAny_pure ⟨plainId_quiet F.plain_extend_loop _, ?_⟩)
  refine codeAny_extend_loopS Wk (by rw [sizeLine_eq]; omega) S (by simp [ni, nl]) res its.size 0 _ #[] c rfl (Nat.zero_le _) ⟨Nat.zero_le _, ?_, hl⟩ hS (ItemsOf.nil _) fun s' acc c' hm hS' hacc => ?_
  · rw [show (its.size : Int) - 1 - ((0 : Nat) : Int) = (its.size : Int) - 1 by omega]
    exact hr
  · rw [Moved.eq_with hm]
    refine q s'.heap s'.toks acc c' (fun b o hb hb2 e => hm.heap b o (fun hmem => ?_) e) hS' hacc
    rcases List.mem_cons.mp hmem with e' | hmem
    · exact hb e'
    · exact hb2 (List.mem_singleton.mp hmem)
theorem list_of_rev {Q : Value -> Shared -> Prop} (hh : A.handled = none) (hr : s.heap.IsRevIter it l ((its.size : Int) - 1)) (hl : s.heap.IsList l its) (hz : its.size <= 1000)
    (q : ∀ h' tk acc c', (∀ b o, b ≠ it -> s.heap.get? b = some o -> h'.get? b = some o) -> h'.get? s.heap.objs.size = some { cls := .type "list", dict := none, data := .seq acc c', slots := #[] } ->
      ItemsOf (fun i v => its[its.size - 1 - i]? = some v) acc its.size -> Q (.ref s.heap.objs.size) { s with heap := h', toks := tk }) : wpAny (model prog w) A (call (.type "list") [.ref it]) Q E s := by
  refine callType_codes (Q₁ := fun obj s₁ => obj = .ref s.heap.objs.size /\ s₁ = { s with heap := s.heap.push { cls := .type "list", data := .seq #[] } }) F.called_list (F.typeCall_list_1 _) F.entry_list_init (code_list_new _ ⟨rfl, rfl⟩) fun obj s₁ h₁ => ?_
  obtain ⟨rfl, rfl⟩ := h₁
  have hS : (s.heap.push { cls := .type "list", data := .seq #[] }).get? s.heap.objs.size = some { cls := .type "list", data := .seq #[] } := Heap.get?_push_size _ rfl
  have ll : l < s.heap.objs.size := by obtain ⟨_, e, _⟩ := id hl; exact Heap.lt_size e
  refine ⟨⟨_, hS, rfl⟩, F.args_list_init_2 _ _, ?_⟩
  show wpAny _ _ (do let old <- Builtin.List.listItems (.ref s.heap.objs.size); Builtin.List.listUpdate (.ref s.heap.objs.size) (fun _ => #[]); letGo old.toList.reverse; Builtin.List.listExtendWith (.ref s.heap.objs.size) (.ref it) .none) _ _ _
  refine wpAny_bind ?_
  unfold Builtin.List.listItems
  refine wpAny_bind (wpAny_seqItems hS rfl (wpAny_pure ?_))
  show wpAny _ _ (updateSeq s.heap.objs.size (fun _ => #[]) >>= fun _ => letGo (#[] : Array Value).toList.reverse >>= fun _ => Builtin.List.listExtendWith (.ref s.heap.objs.size) (.ref it) .none) _ _ _
  refine wpAny_bind (wpAny_updateSeq hS rfl ?_)
  have hS2 := Heap.get?_update_self (Obj.mapSeq (fun _ => (#[] : Array Value))) hS rfl
  have oth : ∀ b o, s.heap.get? b = some o -> ((s.heap.push { cls := .type "list", data := .seq #[] }).update s.heap.objs.size (Obj.mapSeq (fun _ => (#[] : Array Value)))).get? b = some o :=
    fun b o e => (Heap.get?_update_other _ _ (Nat.ne_of_gt (Heap.lt_size e))).trans (Heap.get?_push_of_some _ e)
  refine wpAny_bind (wpAny_letGo ?_)
  refine extend_rev (A := A.in1) hh (hr.at fun o e => oth it o e) (hl.at fun o e => oth l o e) hz s.heap.objs.size .none _ hS2 (Nat.ne_of_gt ll) fun h' tk acc c' hk hS' hacc => ⟨rfl, ?_⟩
  exact q h' tk acc c' (fun b o hb e => hk b o (Nat.ne_of_lt (Heap.lt_size e)) hb (oth b o e)) hS' hacc
end
theorem items_rev {xs : List V} {its : List Value} {acc : Array Value} (r : Vals xs its) (h : ItemsOf (fun i v => its.toArray[its.toArray.size - 1 - i]? = some v) acc its.toArray.size) : Vals xs.reverse acc.toList := by
  obtain ⟨hz, hi⟩ := h
  have el : acc.toList = its.reverse := by
    apply List.ext_getElem?
    intro i
    by_cases c : i < its.length
    · have ia : i < acc.size := by rw [hz]; simpa using c
      have e1 := hi i acc[i] (by simp [ia])
      rw [List.getElem?_reverse c]
      have e2 : acc.toList[i]? = some acc[i] := by simp [ia]
      rw [e2]
      have e3 : its[its.length - 1 - i]? = some acc[i] := by simpa using e1
      exact e3.symm
    · rw [List.getElem?_eq_none (by rw [Array.length_toList, hz]; simpa using c), List.getElem?_eq_none (by rw [List.length_reverse]; omega)]
  rw [el]
  exact Vals.reverse r
section
variable {X : Cx}
theorem boot_reversed' : bootBuiltins "reversed" = some (.type "reversed") := by first | rfl | decide +kernel
theorem boot_list'' : bootBuiltins "list" = some (.type "list") := by first | rfl | decide +kernel
def tListRev (K : PySem.W.Frag) (tl : TE) : TE := fun σ H Q => tl σ H fun x H1 => ∃ a ys, x = .ref a /\ SqL K H1 a ys /\ ys.length <= 1000 /\ ∀ p, H1 p = none -> Q (.ref p) (upd H1 p (.lst ys.reverse))
theorem pe_listrev {l : Expr} {tl : TE} {p p2 pos pos2 : Pos} (hc : X.calm = true) (hgl : Gl X "list") (hml : X.mg "list" = none) (hgr : Gl X "reversed") (hmr : X.mg "reversed" = none) (hl : PE X l tl)
    (hs : starEach [l] X.env = [(false, eval l X.env)] := by rfl) : PE X (.Call (.Name "list" p) [.Call (.Name "reversed" p2) [l] [] pos2] [] pos) (tListRev X.K tl) := by
  intro pins s σ H Q I h
  refine Call_ (ld_blt I hgl hml boot_list'' (PyProof.Rows.callWith_type1 ?_ rfl rfl))
  show wpAny _ _ (spliced ((false, eval (.Call (.Name "reversed" p2) [l] [] pos2) X.env) :: backTo pos [])) _ _ s
  refine Calls.spliced_cons (Call_ (ld_blt I hgr hmr boot_reversed' (PyProof.Rows.callWith_type1 ?_ hs rfl)))
  rw [hs]
  refine Calls.spliced_cons (thn (hl pins s σ H _ I h) fun u s1 ⟨x, H1, I1, r1, a, ys, ex, hq, hz, q⟩ => Calls.spliced_nil ?_)
  subst ex
  cases (show u = Value.ref a from r1)
  obtain ⟨its, rv, t1, _⟩ := I1.list hq
  refine call_reversed_list t1.isList (Calls.spliced_nil ?_)
  have I2 : Inv X pins σ H1 { s1 with heap := s1.heap.push (revObj a ((its.toArray.size : Int) - 1)) } := I1.kept (t' := s1.toks) fun b o e => Heap.get?_push_of_some _ e
  have il : its.length = ys.length := rv.length.symm
  have fp : ∀ b ∈ [s1.heap.objs.size], FpOk X pins H1 b := fun b hb => by rw [List.mem_singleton.mp hb]; exact I1.fpOk (Nat.le_refl _) (I1.hok.fresh (Nat.le_refl _))
  refine list_of_rev (s := { s1 with heap := s1.heap.push (revObj a ((its.toArray.size : Int) - 1)) }) (I.ok.hd hc) ⟨_, Heap.get?_push_size _ rfl, rfl, rfl⟩ (t1.isList.push _) (by rw [List.size_toArray, il]; exact hz) fun h' tk acc c' hk hS hacc => ?_
  refine ⟨.ref (s1.heap.push (revObj a ((its.toArray.size : Int) - 1))).objs.size, upd H1 (s1.heap.push (revObj a ((its.toArray.size : Int) - 1))).objs.size (.lst ys.reverse), I2.turnNew fp (fun b o hb e => hk b o (fun z => hb (by simp [z])) e) (Nat.le_refl _) ?_, rfl, q _ (I2.hok.fresh (Nat.le_refl _))⟩
  exact ⟨by rw [List.length_reverse]; exact Nat.le_trans hz (by decide), acc.toList, c', items_rev rv hacc, by rw [hS]⟩
end
section
variable {prog : Program} {w : World} {A : Around} {E : Value -> Shared -> Prop} {s : Shared} {a : Addr} {led : Bool} {ns : List Int}
end
section
variable {prog : Program} {w : World} {A : Around} {R : Result -> Shared -> Prop} {I : Addr} {fp wr : List Addr} {G : Array GenState -> Array GenState -> Prop} {n : Nat} {P : Nat -> Value -> Prop} {St : Nat -> Shared -> Prop}
end
section
variable {prog : Program} {w : World} {A : Around} {E : Value -> Shared -> Prop} {s : Shared}
set_option maxHeartbeats 8000000 in
end
section
variable {prog : Program} {w : World} {A : Around} {E : Value -> Shared -> Prop} {s : Shared} {it a : Addr} {o : Obj} {es : Array (Int × Value)} {ep i : Nat} {t : SetTable} {slot : Nat}
end
section
variable {prog : Program} {w : World} {A : Around} {E : Value -> Shared -> Prop} {s : Shared} {it a : Addr} {o : Obj} {es : Array (Int × Value)} {ep i : Nat} {t : SetTable} {slot : Nat}
end
section
variable {prog : Program} {w : World} {A : Around} {E : Value -> Shared -> Prop} {s : Shared} {a : Addr} {o : Obj} {es : Array (Int × Value)} {ep : Nat} {t : SetTable}
end
section
variable {prog : Program} {w : World} {A : Around} {E : Value -> Shared -> Prop} {s : Shared} {a : Addr}
end
section
variable {X : Cx}
end
section
variable {prog : Program} {w : World} {A : Around} {E : Value -> Shared -> Prop} {s : Shared}
end
section
variable {X : Cx}
end
end L2
namespace L2
open PySem PySem.W PyProof.Rows
def gallop' : Bool -> Keyed -> Array Keyed -> Nat -> Nat -> Nat -> StateT SortSt Sem (Option Nat) := sortPriv% PySem.Builtin.gallop
section
variable {prog : Program} {w : World} {A : Around} {E : Value -> Shared -> Prop} {s : Shared} {κ : SortKind} {it : Array Keyed} {lt : Nat -> Nat -> Bool} {N : Nat}
def Cmp (prog : Program) (w : World) (A : Around) (κ : SortKind) (it : Array Keyed) (lt : Nat -> Nat -> Bool) (N : Nat) (s : Shared) : Prop := ∀ i j C, i < N -> j < N -> C (lt i j) s -> kas_cmp prog w A κ it i j C s
theorem lt_of {i j : Nat} {st : SortSt} {Q : Option Bool -> SortSt -> Prop} (c : Cmp prog w A κ it lt N s) (hk : kindOf st = κ) (hi : i < N) (hj : j < N) (h : Q (some (lt i j)) st) : wpS (model prog w) A E s (lt' (kas_item it i) (kas_item it j)) Q st := by
  rw [lt'_eq]
  refine wpS_bind (wpS_get ?_)
  rw [hk]
  refine wpS_bind (wpS_lift (wpAny_attempt (wpAny_mono (c i j (fun b s' => s' = s /\ b = lt i j) hi hj ⟨rfl, rfl⟩) (fun b s' z => ?_) fun _ _ hF => hF.elim)))
  obtain ⟨rfl, rfl⟩ := z
  exact ⟨rfl, wpS_pure h⟩
theorem elem_of {q : Array Nat} {i : Nat} {st : SortSt} {Q : Keyed -> SortSt -> Prop} (hi : i < q.size) (h : Q (kas_item it (q.getD i 0)) st) : wpS (model prog w) A E s (elem' (q.map (kas_item it)) i) Q st := by
  rw [elem'_eq]
  have e : (q.map (kas_item it))[i]? = some (kas_item it (q.getD i 0)) := by simp [Array.getD, hi]
  rw [e]
  exact wpS_pure h
def Bey (lt : Nat -> Nat -> Bool) (left : Bool) (k x : Nat) : Bool := if left = true then lt x k else !lt k x
theorem bin_ok {B : Nat -> Bool} {n lo hi : Nat} {st : SortSt} {α : Type} {Q : α -> SortSt -> Prop} {f : Nat -> (Option (Option Nat) × Nat × Nat) -> StateT SortSt Sem (ForInStep (Option (Option Nat) × Nat × Nat))} {g : (Option (Option Nat) × Nat × Nat) -> StateT SortSt Sem α}
    (mono : ∀ i j, i <= j -> j < n -> B j = true -> B i = true)
    (hd : ∀ x lo hi Q', hi <= lo -> Q' (.done (none, lo, hi)) st -> wpS (model prog w) A E s (f x (none, lo, hi)) Q' st)
    (hf : ∀ x lo hi Q', lo < hi -> hi <= n -> (B (lo + (hi - lo) / 2) = true -> Q' (.yield (none, lo + (hi - lo) / 2 + 1, hi)) st) -> (B (lo + (hi - lo) / 2) = false -> Q' (.yield (none, lo, lo + (hi - lo) / 2)) st) -> wpS (model prog w) A E s (f x (none, lo, hi)) Q' st)
    (l1 : lo <= hi) (l2 : hi <= n) (b1 : ∀ i, i < lo -> B i = true) (b2 : ∀ i, hi <= i -> i < n -> B i = false)
    (hg : ∀ lo r, r <= n -> (∀ i, i < r -> B i = true) -> (∀ i, r <= i -> i < n -> B i = false) -> wpS (model prog w) A E s (g (none, lo, r)) Q st) :
    wpS (model prog w) A E s (forIn [:n] ((none, lo, hi) : Option (Option Nat) × Nat × Nat) f >>= g) Q st := by
  refine wpS_bind (wpS_mono (wpS_forRange (I := fun x c st' => st' = st /\ ∃ lo hi, c = (none, lo, hi) /\ lo <= hi /\ hi <= n /\ hi - lo + x <= n /\ (∀ i, i < lo -> B i = true) /\ (∀ i, hi <= i -> i < n -> B i = false))
    (Q := fun c st' => st' = st /\ ∃ lo r, c = (none, lo, r) /\ r <= n /\ (∀ i, i < r -> B i = true) /\ (∀ i, r <= i -> i < n -> B i = false)) ?_ ?_ ⟨rfl, lo, hi, rfl, l1, l2, by omega, b1, b2⟩) ?_)
  · rintro x c st' _ hx ⟨rfl, lo, hi, rfl, l1, l2, l3, b1, b2⟩
    by_cases e : lo < hi
    · refine hf x lo hi _ e l2 (fun z => ⟨rfl, _, _, rfl, by omega, l2, by omega, fun i hi' => mono i _ (by omega) (by omega) z, b2⟩) (fun z => ⟨rfl, _, _, rfl, by omega, by omega, by omega, b1, fun i h1 h2 => ?_⟩)
      cases hB : B i with
      | false => rfl
      | true => rw [mono _ i h1 h2 hB] at z; cases z
    · refine hd x lo hi _ (by omega) ⟨rfl, _, _, rfl, l2, fun i hi' => b1 i (by omega), b2⟩
  · rintro c st' ⟨rfl, lo, hi, rfl, l1, l2, l3, b1, b2⟩
    have : max 0 n = n := by omega
    rw [this] at l3
    exact ⟨rfl, lo, hi, rfl, l2, fun i hi' => b1 i (by omega), b2⟩
  · rintro c st' ⟨rfl, lo, r, rfl, r1, r2, r3⟩
    exact hg lo r r1 r2 r3
theorem gallop_ok {left : Bool} {k : Nat} {q : Array Nat} {base n hint : Nat} {st : SortSt} {Q : Option Nat -> SortSt -> Prop} (c : Cmp prog w A κ it lt N s) (hk : kindOf st = κ) (kN : k < N) (qN : ∀ i, i < q.size -> q.getD i 0 < N) (hb : base + n <= q.size) (hh : hint < n)
    (mono : ∀ i j, i <= j -> j < n -> Bey lt left k (q.getD (base + j) 0) = true -> Bey lt left k (q.getD (base + i) 0) = true)
    (h : ∀ r, r <= n -> (∀ i, i < r -> Bey lt left k (q.getD (base + i) 0) = true) -> (∀ i, r <= i -> i < n -> Bey lt left k (q.getD (base + i) 0) = false) -> Q (some r) st) :
    wpS (model prog w) A E s (gallop' left (kas_item it k) (q.map (kas_item it)) base n hint) Q st := by
  generalize hB : (fun i => Bey lt left k (q.getD (base + i) 0)) = B
  have hB' : ∀ i, Bey lt left k (q.getD (base + i) 0) = B i := fun i => by rw [<- hB]
  simp only [hB'] at mono h
  have bey : ∀ (i : Nat) (Q' : Option Bool -> SortSt -> Prop), i < n -> Q' (some (B i)) st -> wpS (model prog w) A E s (elem' (q.map (kas_item it)) (base + i) >>= fun x => if left = true then lt' x (kas_item it k) else lt' (kas_item it k) x >>= fun r => pure (r.map (!·))) Q' st := by
    intro i Q' hi hq
    rw [<- hB'] at hq
    refine wpS_bind (elem_of (by omega) ?_)
    unfold Bey at hq
    cases left with
    | true =>
      rw [if_pos rfl] at hq ⊢
      exact lt_of c hk (qN _ (by omega)) kN hq
    | false =>
      rw [if_neg (by decide)] at hq ⊢
      exact wpS_bind (lt_of c hk kN (qN _ (by omega)) (wpS_pure hq))
  refine wpS_bind (bey hint _ hh ?_)
  cases b0 : B hint with
  | true =>
    dsimp only
    rw [if_pos rfl]
    refine wpS_bind (wpS_mono (wpS_forRange (I := fun x r st' => st' = st /\ ∃ lo of, r = (none, lo, of) /\ lo < of /\ x < of /\ hint + lo < n /\ B (hint + lo) = true)
      (Q := fun r st' => st' = st /\ ∃ lo of, r = (none, lo, of) /\ lo < of /\ hint + lo < n /\ B (hint + lo) = true /\ (n <= hint + of \/ (hint + of < n /\ B (hint + of) = false))) ?_ ?_ ⟨rfl, 0, 1, rfl, by omega, by omega, by omega, b0⟩) ?_)
    · rintro x r st' _ hx ⟨rfl, lo, of, rfl, l1, l2, l3, l4⟩
      dsimp only
      by_cases e : of >= n - hint
      · rw [if_pos e]
        exact wpS_pure ⟨rfl, lo, of, rfl, l1, l3, l4, .inl (by omega)⟩
      · rw [if_neg e]
        refine wpS_bind (bey (hint + of) _ (by omega) ?_)
        cases b1 : B (hint + of) with
        | true => exact wpS_pure ⟨rfl, of, 2 * of + 1, rfl, by omega, by omega, by omega, b1⟩
        | false => exact wpS_pure ⟨rfl, lo, of, rfl, l1, l3, l4, .inr ⟨by omega, b1⟩⟩
    · rintro r st' ⟨rfl, lo, of, rfl, l1, l2, l3, l4⟩
      exact ⟨rfl, lo, of, rfl, l1, l3, l4, .inl (by omega)⟩
    · rintro r st' ⟨rfl, lo, of, rfl, l1, l3, l4, l5⟩
      dsimp only
      refine bin_ok (B := B) mono ?_ ?_ (by omega) (by omega) (fun i hi => mono i _ (by omega) l3 l4) (fun i h1 h2 => ?_) ?_
      · intro x lo hi Q' e hq
        dsimp only
        rw [if_pos e]
        exact wpS_pure hq
      · intro x lo hi Q' e e2 hq1 hq2
        dsimp only
        rw [if_neg (by omega)]
        refine wpS_bind (bey _ _ (by omega) ?_)
        cases b2 : B (lo + (hi - lo) / 2) with
        | true => exact wpS_pure (hq1 b2)
        | false => exact wpS_pure (hq2 b2)
      · rcases l5 with z | ⟨z, z2⟩
        · omega
        · cases hBi : B i with
          | false => rfl
          | true => rw [mono (hint + of) i (by omega) h2 hBi] at z2; cases z2
      · intro lo r r1 r2 r3
        exact wpS_pure (h r r1 r2 r3)
  | false =>
    dsimp only
    rw [if_neg (by decide)]
    refine wpS_bind (wpS_mono (wpS_forRange (I := fun x r st' => st' = st /\ ∃ lo of, r = (none, lo, of) /\ lo < of /\ x < of /\ lo <= hint /\ B (hint - lo) = false)
      (Q := fun r st' => st' = st /\ ∃ lo of, r = (none, lo, of) /\ lo < of /\ lo <= hint /\ B (hint - lo) = false /\ (hint < of \/ (of <= hint /\ B (hint - of) = true))) ?_ ?_ ⟨rfl, 0, 1, rfl, by omega, by omega, by omega, b0⟩) ?_)
    · rintro x r st' _ hx ⟨rfl, lo, of, rfl, l1, l2, l3, l4⟩
      dsimp only
      by_cases e : of >= hint + 1
      · rw [if_pos e]
        exact wpS_pure ⟨rfl, lo, of, rfl, l1, l3, l4, .inl (by omega)⟩
      · rw [if_neg e]
        refine wpS_bind (bey (hint - of) _ (by omega) ?_)
        cases b1 : B (hint - of) with
        | true => exact wpS_pure ⟨rfl, lo, of, rfl, l1, l3, l4, .inr ⟨by omega, b1⟩⟩
        | false => exact wpS_pure ⟨rfl, of, 2 * of + 1, rfl, by omega, by omega, by omega, b1⟩
    · rintro r st' ⟨rfl, lo, of, rfl, l1, l2, l3, l4⟩
      exact ⟨rfl, lo, of, rfl, l1, l3, l4, .inl (by omega)⟩
    · rintro r st' ⟨rfl, lo, of, rfl, l1, l3, l4, l5⟩
      dsimp only
      refine bin_ok (B := B) mono ?_ ?_ (by omega) (by omega) (fun i hi => ?_) (fun i h1 h2 => ?_) ?_
      · intro x lo hi Q' e hq
        dsimp only
        rw [if_pos e]
        exact wpS_pure hq
      · intro x lo hi Q' e e2 hq1 hq2
        dsimp only
        rw [if_neg (by omega)]
        refine wpS_bind (bey _ _ (by omega) ?_)
        cases b2 : B (lo + (hi - lo) / 2) with
        | true => exact wpS_pure (hq1 b2)
        | false => exact wpS_pure (hq2 b2)
      · rcases l5 with z | ⟨z, z2⟩
        · omega
        · exact mono i (hint - of) (by omega) (by omega) z2
      · cases hBi : B i with
        | false => rfl
        | true => rw [mono (hint - lo) i (by omega) h2 hBi] at l4; cases l4
      · intro lo r r1 r2 r3
        exact wpS_pure (h r r1 r2 r3)
end
end L2
namespace L2
open PySem PySem.W PyProof.Rows
def mergeLo' : Array Keyed -> Array Keyed -> StateT SortSt Sem (Array Keyed) := sortPriv% PySem.Builtin.mergeLo
def mergeHi' : Array Keyed -> Array Keyed -> StateT SortSt Sem (Array Keyed) := sortPriv% PySem.Builtin.mergeHi
def Gs (st st' : SortSt) : Prop := kindOf st' = kindOf st /\ arrOf st' = arrOf st /\ pendingOf st' = pendingOf st /\ failedOf st' = failedOf st
section
variable {lt : Nat -> Nat -> Bool}
abbrev Le (lt : Nat -> Nat -> Bool) (x y : Nat) : Prop := lt y x = false
structure MI (lt : Nat -> Nat -> Bool) (La Lb out : List Nat) (ia ib : Nat) : Prop where
  p : (out ++ (La.drop ia ++ Lb.drop ib)).Perm (La ++ Lb)
  s : out.Pairwise (Le lt)
  c : ∀ x ∈ out, ∀ y ∈ La.drop ia ++ Lb.drop ib, Le lt x y
theorem MI.as {La Lb out : List Nat} {ia ib : Nat} (m : MI lt La Lb out ia ib) (sa : La.Pairwise (Le lt)) (k : Nat) (h : ∀ x ∈ (La.drop ia).take k, ∀ y ∈ Lb.drop ib, Le lt x y) : MI lt La Lb (out ++ (La.drop ia).take k) (ia + k) ib := by
  have e : La.drop (ia + k) = (La.drop ia).drop k := by rw [List.drop_drop]
  have t : (La.drop ia).take k ++ (La.drop ia).drop k = La.drop ia := List.take_append_drop _ _
  have sd : ((La.drop ia).take k ++ (La.drop ia).drop k).Pairwise (Le lt) := by rw [t]; exact sa.sublist (List.drop_sublist _ _)
  obtain ⟨d1, d2, d3⟩ := List.pairwise_append.mp sd
  refine ⟨?_, List.pairwise_append.mpr ⟨m.s, d1, fun x hx y hy => m.c x hx y (List.mem_append_left _ (List.mem_of_mem_take hy))⟩, fun x hx y hy => ?_⟩
  · have := m.p
    rw [<- t] at this
    rw [e]
    simpa [List.append_assoc] using this
  · rw [e] at hy
    rcases List.mem_append.mp hx with hx | hx
    · refine m.c x hx y ?_
      rcases List.mem_append.mp hy with z | z
      · exact List.mem_append_left _ (List.mem_of_mem_drop z)
      · exact List.mem_append_right _ z
    · rcases List.mem_append.mp hy with z | z
      · exact d3 x hx y z
      · exact h x hx y z
theorem MI.bs {La Lb out : List Nat} {ia ib : Nat} (m : MI lt La Lb out ia ib) (sb : Lb.Pairwise (Le lt)) (k : Nat) (h : ∀ x ∈ (Lb.drop ib).take k, ∀ y ∈ La.drop ia, Le lt x y) : MI lt La Lb (out ++ (Lb.drop ib).take k) ia (ib + k) := by
  have e : Lb.drop (ib + k) = (Lb.drop ib).drop k := by rw [List.drop_drop]
  have t : (Lb.drop ib).take k ++ (Lb.drop ib).drop k = Lb.drop ib := List.take_append_drop _ _
  have sd : ((Lb.drop ib).take k ++ (Lb.drop ib).drop k).Pairwise (Le lt) := by rw [t]; exact sb.sublist (List.drop_sublist _ _)
  obtain ⟨d1, d2, d3⟩ := List.pairwise_append.mp sd
  refine ⟨?_, List.pairwise_append.mpr ⟨m.s, d1, fun x hx y hy => m.c x hx y (List.mem_append_right _ (List.mem_of_mem_take hy))⟩, fun x hx y hy => ?_⟩
  · have := m.p
    rw [<- t] at this
    rw [e]
    refine List.Perm.trans ?_ this
    rw [List.append_assoc]
    refine List.Perm.append_left _ ?_
    rw [<- List.append_assoc, <- List.append_assoc]
    exact List.Perm.append_right _ List.perm_append_comm
  · rw [e] at hy
    rcases List.mem_append.mp hx with hx | hx
    · refine m.c x hx y ?_
      rcases List.mem_append.mp hy with z | z
      · exact List.mem_append_left _ z
      · exact List.mem_append_right _ (List.mem_of_mem_drop z)
    · rcases List.mem_append.mp hy with z | z
      · exact h x hx y z
      · exact d3 x hx y z
def Told (lt : Nat -> Nat -> Bool) (it : Array Keyed) (La Lb : List Nat) (res : Array Keyed) : Prop := ∃ L : List Nat, res.toList = L.map (kas_item it) /\ L.Perm (La ++ Lb) /\ L.Pairwise (Le lt)
theorem MI.fin {La Lb out : List Nat} {ia ib : Nat} {it : Array Keyed} {o : Array Keyed} (m : MI lt La Lb out ia ib) (ho : o.toList = out.map (kas_item it)) (sa : La.Pairwise (Le lt)) (sb : Lb.Pairwise (Le lt)) (h : La.drop ia = [] \/ Lb.drop ib = []) :
    Told lt it La Lb (o ++ (La.map (kas_item it)).toArray.extract ia (La.map (kas_item it)).toArray.size ++ (Lb.map (kas_item it)).toArray.extract ib (Lb.map (kas_item it)).toArray.size) := by
  refine ⟨out ++ (La.drop ia ++ Lb.drop ib), ?_, m.p, List.pairwise_append.mpr ⟨m.s, ?_, m.c⟩⟩
  · simp [ho, List.take_of_length_le]
  · rcases h with h | h
    · rw [h, List.nil_append]; exact sb.sublist (List.drop_sublist _ _)
    · rw [h, List.append_nil]; exact sa.sublist (List.drop_sublist _ _)
theorem MI.last {La Lb out : List Nat} {ia ib : Nat} {it : Array Keyed} {o : Array Keyed} (m : MI lt La Lb out ia ib) (ho : o.toList = out.map (kas_item it)) (sa : La.Pairwise (Le lt)) (sb : Lb.Pairwise (Le lt)) (h : ∀ x ∈ Lb, ∀ y ∈ La.drop ia, Le lt x y) :
    Told lt it La Lb (o ++ (Lb.map (kas_item it)).toArray.extract ib (Lb.map (kas_item it)).toArray.size ++ (La.map (kas_item it)).toArray.extract ia (La.map (kas_item it)).toArray.size) := by
  refine ⟨out ++ (Lb.drop ib ++ La.drop ia), ?_, ?_, List.pairwise_append.mpr ⟨m.s, List.pairwise_append.mpr ⟨sb.sublist (List.drop_sublist _ _), sa.sublist (List.drop_sublist _ _), fun x hx y hy => h x (List.mem_of_mem_drop hx) y hy⟩, fun x hx y hy => m.c x hx y ?_⟩⟩
  · simp [ho, List.take_of_length_le]
  · exact (List.Perm.append_left _ List.perm_append_comm).trans m.p
  · rcases List.mem_append.mp hy with z | z
    · exact List.mem_append_right _ z
    · exact List.mem_append_left _ z
end
section
variable {prog : Program} {w : World} {A : Around} {E : Value -> Shared -> Prop} {s : Shared} {κ : SortKind} {it : Array Keyed} {lt : Nat -> Nat -> Bool} {N : Nat}
theorem Le.tr (o : Ord lt) {x y z : Nat} (h1 : Le lt x y) (h2 : Le lt y z) : Le lt x z := o.tr x y z h1 h2
theorem head_le (o : Ord lt) {L : List Nat} {i : Nat} (sL : L.Pairwise (Le lt)) (hi : i < L.length) : ∀ y ∈ L.drop i, Le lt L[i] y := by
  intro y hy
  rw [List.drop_eq_getElem_cons hi] at hy
  rcases List.mem_cons.mp hy with z | z
  · rw [z]; exact o.rf _
  · have := sL.sublist (List.drop_sublist i L)
    rw [List.drop_eq_getElem_cons hi, List.pairwise_cons] at this
    exact this.1 y z
theorem take_one {L : List Nat} {i : Nat} (hi : i < L.length) : (L.drop i).take 1 = [L[i]] := by rw [List.drop_eq_getElem_cons hi]; rfl
theorem wp_ite {α : Type} {c : Prop} [Decidable c] {X Y : StateT SortSt Sem α} {st : SortSt} {Q : α -> SortSt -> Prop} (h1 : c -> wpS (model prog w) A E s X Q st) (h2 : ¬ c -> wpS (model prog w) A E s Y Q st) : wpS (model prog w) A E s (if c then X else Y) Q st := by
  by_cases h : c
  · rw [if_pos h]; exact h1 h
  · rw [if_neg h]; exact h2 h
theorem wp_yes {α : Type} {c : Prop} [Decidable c] {X Y : StateT SortSt Sem α} {st : SortSt} {Q : α -> SortSt -> Prop} (h : c) (h1 : wpS (model prog w) A E s X Q st) : wpS (model prog w) A E s (if c then X else Y) Q st := by rw [if_pos h]; exact h1
theorem wp_no {α : Type} {c : Prop} [Decidable c] {X Y : StateT SortSt Sem α} {st : SortSt} {Q : α -> SortSt -> Prop} (h : ¬ c) (h1 : wpS (model prog w) A E s Y Q st) : wpS (model prog w) A E s (if c then X else Y) Q st := by rw [if_neg h]; exact h1
theorem mem_slice {L : List Nat} {b r x : Nat} (h : x ∈ (L.drop b).take r) : ∃ i, i < r /\ b + i < L.length /\ x = L.getD (b + i) 0 := by
  obtain ⟨i, hi, rfl⟩ := List.getElem_of_mem h
  rw [List.length_take, List.length_drop] at hi
  refine ⟨i, by omega, by omega, ?_⟩
  rw [List.getElem_take, List.getElem_drop, List.getD_eq_getElem?_getD, List.getElem?_eq_getElem (by omega)]
  rfl
theorem mem_dropN {L : List Nat} {b x : Nat} (h : x ∈ L.drop b) : ∃ i, b + i < L.length /\ x = L.getD (b + i) 0 := by
  obtain ⟨i, hi, rfl⟩ := List.getElem_of_mem h
  rw [List.length_drop] at hi
  refine ⟨i, by omega, ?_⟩
  rw [List.getElem_drop, List.getD_eq_getElem?_getD, List.getElem?_eq_getElem (by omega)]
  rfl
theorem gallopL_ok {left : Bool} {k : Nat} {L : List Nat} {base n hint : Nat} {st : SortSt} {Q : Option Nat -> SortSt -> Prop} (c : Cmp prog w A κ it lt N s) (o : Ord lt) (hk : kindOf st = κ) (kN : k < N) (qN : ∀ x ∈ L, x < N) (hb : base + n <= L.length) (hh : hint < n) (sL : L.Pairwise (Le lt))
    (h : ∀ r, r <= n -> (∀ i, i < r -> Bey lt left k (L.getD (base + i) 0) = true) -> (∀ i, r <= i -> i < n -> Bey lt left k (L.getD (base + i) 0) = false) -> Q (some r) st) :
    wpS (model prog w) A E s (gallop' left (kas_item it k) (L.map (kas_item it)).toArray base n hint) Q st := by
  have e : (L.map (kas_item it)).toArray = L.toArray.map (kas_item it) := by simp
  have g : ∀ i, L.toArray.getD i 0 = L.getD i 0 := fun i => by rw [Array.getD_eq_getD_getElem?, List.getD_eq_getElem?_getD]; simp
  rw [e]
  refine gallop_ok c hk kN (fun i hi => ?_) (by simpa using hb) hh (fun i j hij hj hB => ?_) (fun r r1 r2 r3 => h r r1 (fun i hi => ?_) (fun i h1 h2 => ?_))
  · rw [g]
    have hi' : i < L.length := by simpa using hi
    rw [List.getD_eq_getElem?_getD, List.getElem?_eq_getElem hi']
    exact qN _ (List.getElem_mem hi')
  · rw [g] at hB ⊢
    have lij : Le lt (L.getD (base + i) 0) (L.getD (base + j) 0) := by
      have h1 : base + i < L.length := by omega
      have h2 : base + j < L.length := by omega
      rw [List.getD_eq_getElem?_getD, List.getElem?_eq_getElem h1, List.getD_eq_getElem?_getD, List.getElem?_eq_getElem h2]
      by_cases e : i = j
      · subst e; exact o.rf _
      · exact List.pairwise_iff_getElem.mp sL _ _ h1 h2 (by omega)
    unfold Bey at hB ⊢
    cases left with
    | true =>
      rw [if_pos rfl] at hB ⊢
      cases z : lt (L.getD (base + i) 0) k with
      | true => rfl
      | false => rw [Le.tr o (x := k) z lij] at hB; cases hB
    | false =>
      rw [if_neg (by decide)] at hB ⊢
      have hB' : Le lt (L.getD (base + j) 0) k := by simpa using hB
      have := Le.tr o lij hB'
      rw [this]
      rfl
  · have := r2 i hi; rw [g] at this; exact this
  · have := r3 i h1 h2; rw [g] at this; exact this
theorem el_of {L : List Nat} {i : Nat} {st : SortSt} {Q : Keyed -> SortSt -> Prop} (hi : i < L.length) (h : Q (kas_item it L[i]) st) : wpS (model prog w) A E s (elem' (L.map (kas_item it)).toArray i) Q st := by
  rw [elem'_eq]
  have e : (L.map (kas_item it)).toArray[i]? = some (kas_item it L[i]) := by simp [hi]
  rw [e]
  exact wpS_pure h
def At (lt : Nat -> Nat -> Bool) (it : Array Keyed) (La Lb : List Nat) (out : Array Keyed) (ia ib : Nat) : Prop := ∃ L : List Nat, out.toList = L.map (kas_item it) /\ MI lt La Lb L ia ib
theorem At.b1 (o : Ord lt) {La Lb : List Nat} {out : Array Keyed} {ia ib : Nat} (h : At lt it La Lb out ia ib) (sb : Lb.Pairwise (Le lt)) (hi : ib < Lb.length) (hle : ∀ y ∈ La.drop ia, Le lt Lb[ib] y) : At lt it La Lb (out.push (kas_item it Lb[ib])) ia (ib + 1) := by
  obtain ⟨L, e, m⟩ := h
  have := m.bs sb 1 (by rw [take_one hi]; intro x hx; rw [List.mem_singleton.mp hx]; exact hle)
  rw [take_one hi] at this
  exact ⟨_, by rw [Array.toList_push, e, List.map_append]; rfl, this⟩
theorem At.a1 (o : Ord lt) {La Lb : List Nat} {out : Array Keyed} {ia ib : Nat} (h : At lt it La Lb out ia ib) (sa : La.Pairwise (Le lt)) (hi : ia < La.length) (hle : ∀ y ∈ Lb.drop ib, Le lt La[ia] y) : At lt it La Lb (out.push (kas_item it La[ia])) (ia + 1) ib := by
  obtain ⟨L, e, m⟩ := h
  have := m.as sa 1 (by rw [take_one hi]; intro x hx; rw [List.mem_singleton.mp hx]; exact hle)
  rw [take_one hi] at this
  exact ⟨_, by rw [Array.toList_push, e, List.map_append]; rfl, this⟩
theorem At.an {La Lb : List Nat} {out : Array Keyed} {ia ib : Nat} (h : At lt it La Lb out ia ib) (sa : La.Pairwise (Le lt)) (k : Nat) (hle : ∀ x ∈ (La.drop ia).take k, ∀ y ∈ Lb.drop ib, Le lt x y) : At lt it La Lb (out ++ (La.map (kas_item it)).toArray.extract ia (ia + k)) (ia + k) ib := by
  obtain ⟨L, e, m⟩ := h
  exact ⟨_, by simp [e, List.map_take, List.map_drop], m.as sa k hle⟩
theorem At.bn {La Lb : List Nat} {out : Array Keyed} {ia ib : Nat} (h : At lt it La Lb out ia ib) (sb : Lb.Pairwise (Le lt)) (k : Nat) (hle : ∀ x ∈ (Lb.drop ib).take k, ∀ y ∈ La.drop ia, Le lt x y) : At lt it La Lb (out ++ (Lb.map (kas_item it)).toArray.extract ib (ib + k)) ia (ib + k) := by
  obtain ⟨L, e, m⟩ := h
  exact ⟨_, by simp [e, List.map_take, List.map_drop], m.bs sb k hle⟩
end
end L2
namespace L2
open PySem PySem.W PyProof.Rows
section
variable {prog : Program} {w : World} {A : Around} {E : Value -> Shared -> Prop} {s : Shared} {κ : SortKind} {it : Array Keyed} {lt : Nat -> Nat -> Bool} {N : Nat}
theorem Gs.refl (st : SortSt) : Gs st st := ⟨rfl, rfl, rfl, rfl⟩
theorem Told.fin {La Lb : List Nat} {out : Array Keyed} {ia ib : Nat} (h : At lt it La Lb out ia ib) (sa : La.Pairwise (Le lt)) (sb : Lb.Pairwise (Le lt)) (z : La.length <= ia \/ Lb.length <= ib) :
    Told lt it La Lb (out ++ (La.map (kas_item it)).toArray.extract ia (La.map (kas_item it)).toArray.size ++ (Lb.map (kas_item it)).toArray.extract ib (Lb.map (kas_item it)).toArray.size) := by
  obtain ⟨L, e, m⟩ := h
  exact m.fin e sa sb (z.elim (fun z => .inl (List.drop_eq_nil_of_le z)) fun z => .inr (List.drop_eq_nil_of_le z))
theorem Told.last {La Lb : List Nat} {out : Array Keyed} {ia ib : Nat} (h : At lt it La Lb out ia ib) (sa : La.Pairwise (Le lt)) (sb : Lb.Pairwise (Le lt)) (hl : ∀ x ∈ Lb, ∀ y ∈ La.drop (La.length - 1), Le lt x y) (z : ia + 1 = La.length) :
    Told lt it La Lb (out ++ (Lb.map (kas_item it)).toArray.extract ib (Lb.map (kas_item it)).toArray.size ++ (La.map (kas_item it)).toArray.extract ia (La.map (kas_item it)).toArray.size) := by
  obtain ⟨L, e, m⟩ := h
  have : ia = La.length - 1 := by omega
  subst this
  exact m.last e sa sb hl
theorem mergeLo_ok {La Lb : List Nat} {st : SortSt} {Q : Array Keyed -> SortSt -> Prop} (c : Cmp prog w A κ it lt N s) (o : Ord lt) (hk : kindOf st = κ) (aN : ∀ x ∈ La, x < N) (bN : ∀ x ∈ Lb, x < N) (sa : La.Pairwise (Le lt)) (sb : Lb.Pairwise (Le lt)) (ha : 0 < La.length) (hb : 0 < Lb.length)
    (hf : ∀ y ∈ La, Le lt Lb[0] y) (hl : ∀ x ∈ Lb, ∀ y ∈ La.drop (La.length - 1), Le lt x y) (h : ∀ res st', Gs st st' -> Told lt it La Lb res -> Q res st') : wpS (model prog w) A E s (mergeLo' (La.map (kas_item it)).toArray (Lb.map (kas_item it)).toArray) Q st := by
  refine wpS_bind ?_
  refine wpS_lift (wpAny_rule ⟨rfl, ?_⟩)
  dsimp only
  refine wpS_bind (el_of hb ?_)
  have sz : ∀ L : List Nat, (L.map (kas_item it)).toArray.size = L.length := fun L => by simp
  have at0 : At lt it La Lb #[kas_item it Lb[0]] 0 1 := by
    have m0 : MI lt La Lb [] 0 0 := ⟨by simp, .nil, fun x hx => nomatch hx⟩
    have := At.b1 (it := it) o (out := #[]) ⟨[], rfl, m0⟩ sb hb (by simpa using hf)
    exact this
  by_cases e1 : 1 = Lb.length
  · rw [if_pos (by simp [e1])]
    exact wpS_pure (h _ _ (Gs.refl _) (Told.fin at0 sa sb (.inr (by omega))))
  rw [if_neg (by simp [e1])]
  by_cases e2 : 0 + 1 = La.length
  · rw [if_pos (by simp; omega)]
    exact wpS_pure (h _ _ (Gs.refl _) (Told.last at0 sa sb hl e2))
  rw [if_neg (by simp; omega)]
  refine wpS_bind (wpS_get ?_)
  generalize gallopOf st = mg0
  refine wpS_bind (wpS_mono (wpS_forRange
    (I := fun x r st' => Gs st st' /\ ∃ out ia ib mg, r = (none, out, ia, ib, mg) /\ At lt it La Lb out ia ib /\ ia + 1 < La.length /\ ib < Lb.length /\ x + 1 <= ia + ib)
    (Q := fun r st' => Gs st st' /\ ∃ res z, r = (some res, z) /\ Told lt it La Lb res) ?_ ?_ ⟨Gs.refl _, _, 0, 1, _, rfl, at0, by omega, by omega, by omega⟩) ?_)
  rotate_left
  · rintro r st' ⟨_, out, ia, ib, mg, rfl, a1, a2, a3, a4⟩
    exfalso
    rw [sz, sz] at a4
    omega
  · rintro r st' ⟨g, res, z, rfl, t⟩
    exact wpS_pure (h _ _ g t)
  rintro x r st1 _ hx ⟨g1, out, ia, ib, mg, rfl, a1, a2, a3, a4⟩
  dsimp only
  refine wpS_bind (wpS_mono (wpS_forRange
    (I := fun y r st' => st' = st1 /\ ∃ out' ia' ib' ac bc, r = (none, out', ia', ib', ac, bc) /\ At lt it La Lb out' ia' ib' /\ ia' + 1 < La.length /\ ib' < Lb.length /\ ia + ib + y <= ia' + ib')
    (Q := fun r st' => st' = st1 /\ ((∃ res z, r = (some res, z) /\ Told lt it La Lb res) \/ ∃ out' ia' ib' ac bc, r = (none, out', ia', ib', ac, bc) /\ At lt it La Lb out' ia' ib' /\ ia' + 1 < La.length /\ ib' < Lb.length /\ ia + ib + 1 <= ia' + ib')) ?_ ?_ ⟨rfl, _, _, _, _, _, rfl, a1, a2, a3, by omega⟩) ?_)
  · rintro y r st' _ hy ⟨rfl, out, ia', ib', ac, bc, rfl, b1, b2, b3, b4⟩
    dsimp only
    refine wpS_bind (el_of b3 (wpS_bind (el_of (show ia' < La.length by omega) (wpS_bind (lt_of c (g1.1.trans hk) (bN _ (List.getElem_mem _)) (aN _ (List.getElem_mem _)) ?_)))))
    cases w1 : lt Lb[ib'] La[ia'] with
    | true =>
      dsimp only
      rw [if_pos rfl]
      refine wpS_bind (el_of b3 ?_)
      have n1 := At.b1 o b1 sb b3 fun z hz => Le.tr o (o.as _ _ w1) (head_le o sa (by omega) z hz)
      by_cases f1 : ib' + 1 = Lb.length
      · rw [if_pos (by simp [f1])]
        exact wpS_pure ⟨rfl, .inl ⟨_, _, rfl, Told.fin n1 sa sb (.inr (by omega))⟩⟩
      · rw [if_neg (by simp [f1])]
        split
        · exact wpS_pure ⟨rfl, .inr ⟨_, _, _, _, _, rfl, n1, b2, by omega, by omega⟩⟩
        · exact wpS_pure ⟨rfl, _, _, _, _, _, rfl, n1, b2, by omega, by omega⟩
    | false =>
      dsimp only
      rw [if_neg (by decide)]
      refine wpS_bind (el_of (show ia' < La.length by omega) ?_)
      have n1 := At.a1 o b1 sa (show ia' < La.length by omega) fun z hz => Le.tr o w1 (head_le o sb b3 z hz)
      by_cases f1 : ia' + 1 + 1 = La.length
      · rw [if_pos (by simp [f1])]
        exact wpS_pure ⟨rfl, .inl ⟨_, _, rfl, Told.last n1 sa sb hl f1⟩⟩
      · rw [if_neg (by simp [f1])]
        split
        · exact wpS_pure ⟨rfl, .inr ⟨_, _, _, _, _, rfl, n1, by omega, b3, by omega⟩⟩
        · exact wpS_pure ⟨rfl, _, _, _, _, _, rfl, n1, by omega, b3, by omega⟩
  · rintro r st' ⟨_, out, ia', ib', ac, bc, rfl, b1, b2, b3, b4⟩
    exfalso
    rw [sz, sz] at b4
    omega
  rintro r st' ⟨rfl, z⟩
  rcases z with ⟨res, z, rfl, t⟩ | ⟨out2, ia2, ib2, ac, bc, rfl, b1, b2, b3, b4⟩
  · dsimp only
    exact wpS_pure ⟨g1, _, _, rfl, t⟩
  dsimp only
  refine wpS_bind (wpS_lift (wpAny_rule ⟨rfl, ?_⟩))
  refine wpS_bind (wpS_mono (wpS_forRange
    (I := fun y r st' => Gs st st' /\ ∃ out' ia' ib' mg ac bc, r = (none, out', ia', ib', mg, ac, bc) /\ At lt it La Lb out' ia' ib' /\ ia' + 1 < La.length /\ ib' < Lb.length /\ ia + ib + 1 + y <= ia' + ib')
    (Q := fun r st' => Gs st st' /\ ((∃ res z, r = (some res, z) /\ Told lt it La Lb res) \/ ∃ out' ia' ib' mg ac bc, r = (none, out', ia', ib', mg, ac, bc) /\ At lt it La Lb out' ia' ib' /\ ia' + 1 < La.length /\ ib' < Lb.length /\ ia + ib + 1 <= ia' + ib')) ?_ ?_ ⟨g1, _, _, _, _, _, _, rfl, b1, b2, b3, by omega⟩) ?_)
  rotate_left
  · rintro r st' ⟨_, out, ia', ib', mg, ac, bc, rfl, b1, b2, b3, b4⟩
    exfalso
    rw [sz, sz] at b4
    omega
  · rintro r st' ⟨g2, z⟩
    rcases z with ⟨res, z, rfl, t⟩ | ⟨out3, ia3, ib3, mg3, ac3, bc3, rfl, d1, d2, d3, d4⟩
    · dsimp only
      exact wpS_pure ⟨g2, _, _, rfl, t⟩
    · dsimp only
      refine wpS_bind (wpS_modify (wpS_pure ⟨⟨g2.1, g2.2.1, g2.2.2.1, g2.2.2.2⟩, _, _, _, _, rfl, d1, d2, d3, by omega⟩))
  clear b1 b2 b3 b4 a1 a2 a3
  rintro y r st2 _ hy ⟨g2, out, ia', ib', mg, ac, bc, rfl, b1, b2, b3, b4⟩
  dsimp only
  refine wp_ite (fun _ => ?_) (fun _ => ?_)
  all_goals
    refine wpS_bind (wpS_modify ?_)
    refine wpS_bind (el_of b3 ?_)
    refine wpS_bind (gallopL_ok c o (by exact g2.1.trans hk) (bN _ (List.getElem_mem _)) aN (by rw [sz]; omega) (by rw [sz]; omega) sa fun k k1 k2 k3 => ?_)
    rw [sz] at k1 k3
    dsimp only
    have A1 := b1.an sa k fun x hx y hy => by
      obtain ⟨j, j1, j2, rfl⟩ := mem_slice hx
      have := k2 j j1
      unfold Bey at this
      rw [if_neg (by decide)] at this
      exact Le.tr o (show Le lt _ Lb[ib'] by simpa using this) (head_le o sb b3 y hy)
    have R1 : ∀ y ∈ La.drop (ia' + k), Le lt Lb[ib'] y := fun y hy => by
      obtain ⟨j, j1, rfl⟩ := mem_dropN hy
      have := k3 (k + j) (by omega) (by omega)
      unfold Bey at this
      rw [if_neg (by decide), <- Nat.add_assoc] at this
      exact o.as _ _ (by simpa using this)
    by_cases kp : k > 0
    case' pos =>
      refine wp_yes kp ?_
      by_cases f1 : ia' + k + 1 = La.length
      · refine wp_yes (by simp [f1]) ?_
        exact wpS_pure ⟨⟨g2.1, g2.2.1, g2.2.2.1, g2.2.2.2⟩, .inl ⟨_, _, rfl, Told.last A1 sa sb hl f1⟩⟩
      refine wp_no (by simp [f1]) ?_
      by_cases f2 : ia' + k = La.length
      · refine wp_yes (by simp [f2]) ?_
        exact wpS_pure ⟨⟨g2.1, g2.2.1, g2.2.2.1, g2.2.2.2⟩, .inl ⟨_, _, rfl, Told.fin A1 sa sb (.inl (by omega))⟩⟩
      refine wp_no (by simp [f2]) ?_
      have i3 : ia' + k + 1 < La.length := by omega
      have i4 : ia' <= ia' + k := by omega
      generalize out ++ (La.map (kas_item it)).toArray.extract ia' (ia' + k) = o2 at A1 ⊢
      generalize ia' + k = i2 at A1 R1 i3 i4 ⊢
    case' neg =>
      refine wp_no kp ?_
      have k0 : k = 0 := by omega
      rw [k0] at R1
      have i3 : ia' + 1 < La.length := b2
      have i4 : ia' <= ia' := Nat.le_refl _
      clear A1
      have A1 := b1
      generalize hi2 : ia' + 0 = i2 at R1
      rw [Nat.add_zero] at hi2
      rw [hi2] at i3 i4 A1 ⊢
      generalize out = o2 at A1 ⊢
    all_goals
      refine wpS_bind (el_of b3 ?_)
      have A2 := At.b1 o A1 sb b3 R1
      by_cases f3 : ib' + 1 = Lb.length
      · refine wp_yes (by simp [f3]) ?_
        exact wpS_pure ⟨⟨g2.1, g2.2.1, g2.2.2.1, g2.2.2.2⟩, .inl ⟨_, _, rfl, Told.fin A2 sa sb (.inr (by omega))⟩⟩
      refine wp_no (by simp [f3]) ?_
      refine wpS_bind (el_of (show i2 < La.length by omega) ?_)
      refine wpS_bind (gallopL_ok c o (by exact g2.1.trans hk) (aN _ (List.getElem_mem _)) bN (by rw [sz]; omega) (by rw [sz]; omega) sb fun m m1 m2 m3 => ?_)
      rw [sz] at m1 m3
      dsimp only
      have A3 := A2.bn sb m fun x hx y hy => by
        obtain ⟨j, j1, j2, rfl⟩ := mem_slice hx
        have := m2 j j1
        unfold Bey at this
        rw [if_pos rfl] at this
        exact Le.tr o (o.as _ _ this) (head_le o sa (by omega) y hy)
      have R3 : ∀ y ∈ Lb.drop (ib' + 1 + m), Le lt La[i2] y := fun y hy => by
        obtain ⟨j, j1, rfl⟩ := mem_dropN hy
        have := m3 (m + j) (by omega) (by omega)
        unfold Bey at this
        rw [if_pos rfl, <- Nat.add_assoc] at this
        exact this
      have i5 : ib' + 1 < Lb.length := by omega
      by_cases mp : m > 0
      case' pos =>
        refine wp_yes mp ?_
        by_cases f4 : ib' + 1 + m = Lb.length
        · refine wp_yes (by simp [f4]) ?_
          exact wpS_pure ⟨⟨g2.1, g2.2.1, g2.2.2.1, g2.2.2.2⟩, .inl ⟨_, _, rfl, Told.fin A3 sa sb (.inr (by omega))⟩⟩
        refine wp_no (by simp [f4]) ?_
        have j3 : ib' + 1 + m < Lb.length := by omega
        have j4 : ib' + 1 <= ib' + 1 + m := by omega
        generalize o2.push (kas_item it Lb[ib']) ++ (Lb.map (kas_item it)).toArray.extract (ib' + 1) (ib' + 1 + m) = o3 at A3 ⊢
        generalize ib' + 1 + m = j2 at A3 R3 j3 j4 ⊢
      case' neg =>
        refine wp_no mp ?_
        have m0 : m = 0 := by omega
        rw [m0] at R3
        have j3 : ib' + 1 < Lb.length := i5
        have j4 : ib' + 1 <= ib' + 1 := Nat.le_refl _
        clear A3
        have A3 := A2
        rw [Nat.add_zero] at R3
        generalize hj2 : ib' + 1 = j2 at A3 R3 j3 j4 ⊢
        rw [<- hj2] at j4
        generalize o2.push (kas_item it Lb[ib']) = o3 at A3 ⊢
      all_goals
        refine wpS_bind (el_of (show i2 < La.length by omega) ?_)
        have A4 := At.a1 o A3 sa (show i2 < La.length by omega) R3
        by_cases f5 : i2 + 1 + 1 = La.length
        · refine wp_yes (by simp [f5]) ?_
          exact wpS_pure ⟨⟨g2.1, g2.2.1, g2.2.2.1, g2.2.2.2⟩, .inl ⟨_, _, rfl, Told.last A4 sa sb hl f5⟩⟩
        refine wp_no (by simp [f5]) (wp_ite (fun _ => ?_) (fun _ => ?_))
        · exact wpS_pure ⟨⟨g2.1, g2.2.1, g2.2.2.1, g2.2.2.2⟩, .inr ⟨_, _, _, _, _, _, rfl, A4, by omega, j3, by omega⟩⟩
        · exact wpS_pure ⟨⟨g2.1, g2.2.1, g2.2.2.1, g2.2.2.2⟩, _, _, _, _, _, _, rfl, A4, by omega, j3, by omega⟩
end
end L2
namespace L2
open PySem PySem.W PyProof.Rows
section
variable {prog : Program} {w : World} {A : Around} {E : Value -> Shared -> Prop} {s : Shared} {κ : SortKind} {it : Array Keyed} {lt : Nat -> Nat -> Bool} {N : Nat}
structure MH (lt : Nat -> Nat -> Bool) (La Lb R : List Nat) (na nb : Nat) : Prop where
  p : ((La.take na ++ Lb.take nb) ++ R).Perm (La ++ Lb)
  s : R.Pairwise (Le lt)
  c : ∀ x ∈ La.take na ++ Lb.take nb, ∀ y ∈ R, Le lt x y
theorem MH.as {La Lb R : List Nat} {na nb : Nat} (m : MH lt La Lb R na nb) (sa : La.Pairwise (Le lt)) (j : Nat) (hj : j <= na) (h : ∀ x ∈ Lb.take nb, ∀ y ∈ (La.take na).drop j, Le lt x y) : MH lt La Lb ((La.take na).drop j ++ R) j nb := by
  have e : La.take j = (La.take na).take j := by rw [List.take_take, Nat.min_eq_left hj]
  have t : (La.take na).take j ++ (La.take na).drop j = La.take na := List.take_append_drop _ _
  have sd : ((La.take na).take j ++ (La.take na).drop j).Pairwise (Le lt) := by rw [t]; exact sa.sublist (List.take_sublist _ _)
  obtain ⟨d1, d2, d3⟩ := List.pairwise_append.mp sd
  refine ⟨?_, List.pairwise_append.mpr ⟨d2, m.s, fun x hx y hy => m.c x (List.mem_append_left _ (List.mem_of_mem_drop hx)) y hy⟩, fun x hx y hy => ?_⟩
  · refine List.Perm.trans ?_ m.p
    rw [e, <- List.append_assoc]
    refine List.Perm.append_right _ ?_
    conv => rhs; rw [<- t]
    rw [List.append_assoc, List.append_assoc]
    exact List.Perm.append_left _ List.perm_append_comm
  · rw [e] at hx
    rcases List.mem_append.mp hy with hy | hy
    · rcases List.mem_append.mp hx with z | z
      · exact d3 x z y hy
      · exact h x z y hy
    · refine m.c x ?_ y hy
      rcases List.mem_append.mp hx with z | z
      · exact List.mem_append_left _ (List.mem_of_mem_take z)
      · exact List.mem_append_right _ z
theorem MH.bs {La Lb R : List Nat} {na nb : Nat} (m : MH lt La Lb R na nb) (sb : Lb.Pairwise (Le lt)) (j : Nat) (hj : j <= nb) (h : ∀ x ∈ La.take na, ∀ y ∈ (Lb.take nb).drop j, Le lt x y) : MH lt La Lb ((Lb.take nb).drop j ++ R) na j := by
  have e : Lb.take j = (Lb.take nb).take j := by rw [List.take_take, Nat.min_eq_left hj]
  have t : (Lb.take nb).take j ++ (Lb.take nb).drop j = Lb.take nb := List.take_append_drop _ _
  have sd : ((Lb.take nb).take j ++ (Lb.take nb).drop j).Pairwise (Le lt) := by rw [t]; exact sb.sublist (List.take_sublist _ _)
  obtain ⟨d1, d2, d3⟩ := List.pairwise_append.mp sd
  refine ⟨?_, List.pairwise_append.mpr ⟨d2, m.s, fun x hx y hy => m.c x (List.mem_append_right _ (List.mem_of_mem_drop hx)) y hy⟩, fun x hx y hy => ?_⟩
  · refine List.Perm.trans ?_ m.p
    rw [e, <- List.append_assoc, List.append_assoc (La.take na), t]
  · rw [e] at hx
    rcases List.mem_append.mp hy with hy | hy
    · rcases List.mem_append.mp hx with z | z
      · exact h x z y hy
      · exact d3 x z y hy
    · refine m.c x ?_ y hy
      rcases List.mem_append.mp hx with z | z
      · exact List.mem_append_left _ z
      · exact List.mem_append_right _ (List.mem_of_mem_take z)
def Ah (lt : Nat -> Nat -> Bool) (it : Array Keyed) (La Lb : List Nat) (out : Array Keyed) (na nb : Nat) : Prop := ∃ R : List Nat, out.toList = R.reverse.map (kas_item it) /\ MH lt La Lb R na nb
theorem last_one {L : List Nat} {n : Nat} (h0 : 0 < n) (hn : n <= L.length) : (L.take n).drop (n - 1) = [L[n - 1]] := by
  rw [List.drop_take, List.drop_eq_getElem_cons (show n - 1 < L.length by omega), show n - (n - 1) = 1 by omega]
  rfl
theorem last_ge (o : Ord lt) {L : List Nat} {n : Nat} (sL : L.Pairwise (Le lt)) (h0 : 0 < n) (hn : n <= L.length) : ∀ x ∈ L.take n, Le lt x L[n - 1] := by
  intro x hx
  obtain ⟨i, hi, rfl⟩ := List.getElem_of_mem hx
  rw [List.length_take] at hi
  rw [List.getElem_take]
  by_cases e : i = n - 1
  · subst e; exact o.rf _
  · exact List.pairwise_iff_getElem.mp sL _ _ (by omega) (by omega) (by omega)
theorem Ah.a1 {La Lb : List Nat} {out : Array Keyed} {na nb : Nat} (h : Ah lt it La Lb out na nb) (sa : La.Pairwise (Le lt)) (h0 : 0 < na) (hn : na <= La.length) (hle : ∀ x ∈ Lb.take nb, Le lt x La[na - 1]) : Ah lt it La Lb (out.push (kas_item it La[na - 1])) (na - 1) nb := by
  obtain ⟨R, e, m⟩ := h
  have := m.as sa (na - 1) (by omega) (by rw [last_one h0 hn]; intro x hx y hy; rw [List.mem_singleton.mp hy]; exact hle x hx)
  rw [last_one h0 hn] at this
  exact ⟨_, by rw [Array.toList_push, e]; simp, this⟩
theorem Ah.b1 {La Lb : List Nat} {out : Array Keyed} {na nb : Nat} (h : Ah lt it La Lb out na nb) (sb : Lb.Pairwise (Le lt)) (h0 : 0 < nb) (hn : nb <= Lb.length) (hle : ∀ x ∈ La.take na, Le lt x Lb[nb - 1]) : Ah lt it La Lb (out.push (kas_item it Lb[nb - 1])) na (nb - 1) := by
  obtain ⟨R, e, m⟩ := h
  have := m.bs sb (nb - 1) (by omega) (by rw [last_one h0 hn]; intro x hx y hy; rw [List.mem_singleton.mp hy]; exact hle x hx)
  rw [last_one h0 hn] at this
  exact ⟨_, by rw [Array.toList_push, e]; simp, this⟩
theorem Ah.an {La Lb : List Nat} {out : Array Keyed} {na nb : Nat} (h : Ah lt it La Lb out na nb) (sa : La.Pairwise (Le lt)) (j : Nat) (hj : j <= na) (hle : ∀ x ∈ Lb.take nb, ∀ y ∈ (La.take na).drop j, Le lt x y) : Ah lt it La Lb (out ++ ((La.map (kas_item it)).toArray.extract j na).reverse) j nb := by
  obtain ⟨R, e, m⟩ := h
  exact ⟨_, by simp [e, List.drop_take, List.map_take, List.map_drop], m.as sa j hj hle⟩
theorem Ah.bn {La Lb : List Nat} {out : Array Keyed} {na nb : Nat} (h : Ah lt it La Lb out na nb) (sb : Lb.Pairwise (Le lt)) (j : Nat) (hj : j <= nb) (hle : ∀ x ∈ La.take na, ∀ y ∈ (Lb.take nb).drop j, Le lt x y) : Ah lt it La Lb (out ++ ((Lb.map (kas_item it)).toArray.extract j nb).reverse) na j := by
  obtain ⟨R, e, m⟩ := h
  exact ⟨_, by simp [e, List.drop_take, List.map_take, List.map_drop], m.bs sb j hj hle⟩
theorem Told.hi {La Lb : List Nat} {out : Array Keyed} {na nb : Nat} (h : Ah lt it La Lb out na nb) (sa : La.Pairwise (Le lt)) (sb : Lb.Pairwise (Le lt)) (z : na = 0 \/ nb = 0) :
    Told lt it La Lb ((La.map (kas_item it)).toArray.extract 0 na ++ (Lb.map (kas_item it)).toArray.extract 0 nb ++ out.reverse) := by
  obtain ⟨R, e, m⟩ := h
  refine ⟨(La.take na ++ Lb.take nb) ++ R, by simp [e, List.map_take], m.p, List.pairwise_append.mpr ⟨?_, m.s, m.c⟩⟩
  rcases z with z | z
  · rw [z, List.take_zero, List.nil_append]; exact sb.sublist (List.take_sublist _ _)
  · rw [z, List.take_zero, List.append_nil]; exact sa.sublist (List.take_sublist _ _)
theorem Told.first {La Lb : List Nat} {out : Array Keyed} {na nb : Nat} (h : Ah lt it La Lb out na nb) (sa : La.Pairwise (Le lt)) (sb : Lb.Pairwise (Le lt)) (z : ∀ x ∈ Lb.take nb, ∀ y ∈ La, Le lt x y) :
    Told lt it La Lb ((Lb.map (kas_item it)).toArray.extract 0 nb ++ (La.map (kas_item it)).toArray.extract 0 na ++ out.reverse) := by
  obtain ⟨R, e, m⟩ := h
  refine ⟨(Lb.take nb ++ La.take na) ++ R, by simp [e, List.map_take], (List.Perm.append_right _ List.perm_append_comm).trans m.p, List.pairwise_append.mpr ⟨List.pairwise_append.mpr ⟨sb.sublist (List.take_sublist _ _), sa.sublist (List.take_sublist _ _), fun x hx y hy => z x hx y (List.mem_of_mem_take hy)⟩, m.s, fun x hx y hy => m.c x ?_ y hy⟩⟩
  rcases List.mem_append.mp hx with z | z
  · exact List.mem_append_right _ z
  · exact List.mem_append_left _ z
theorem mergeHi_ok {La Lb : List Nat} {st : SortSt} {Q : Array Keyed -> SortSt -> Prop} (c : Cmp prog w A κ it lt N s) (o : Ord lt) (hk : kindOf st = κ) (aN : ∀ x ∈ La, x < N) (bN : ∀ x ∈ Lb, x < N) (sa : La.Pairwise (Le lt)) (sb : Lb.Pairwise (Le lt)) (ha : 0 < La.length) (hb : 0 < Lb.length)
    (hf : ∀ y ∈ La, Le lt Lb[0] y) (hl : ∀ x ∈ Lb, Le lt x La[La.length - 1]) (h : ∀ res st', Gs st st' -> Told lt it La Lb res -> Q res st') : wpS (model prog w) A E s (mergeHi' (La.map (kas_item it)).toArray (Lb.map (kas_item it)).toArray) Q st := by
  refine wpS_bind ?_
  refine wpS_lift (wpAny_rule ⟨rfl, ?_⟩)
  dsimp only
  have sz : ∀ L : List Nat, (L.map (kas_item it)).toArray.size = L.length := fun L => by simp
  simp only [sz]
  refine wpS_bind (el_of (show La.length - 1 < La.length by omega) ?_)
  have hf1 : ∀ x ∈ Lb.take 1, ∀ y ∈ La, Le lt x y := fun x hx y hy => by
    rw [show Lb.take 1 = [Lb[0]] by have := take_one (L := Lb) hb; simpa using this] at hx
    rw [List.mem_singleton.mp hx]
    exact hf y hy
  have at0 : Ah lt it La Lb #[kas_item it La[La.length - 1]] (La.length - 1) Lb.length := by
    have m0 : MH lt La Lb [] La.length Lb.length := ⟨by simp, .nil, fun x _ y hy => nomatch hy⟩
    exact Ah.a1 (it := it) (out := #[]) ⟨[], rfl, m0⟩ sa ha (Nat.le_refl _) fun x hx => hl x (List.mem_of_mem_take hx)
  by_cases e1 : La.length - 1 = 0
  · refine wp_yes (by simp [e1]) ?_
    exact wpS_pure (h _ _ (Gs.refl _) (Told.hi at0 sa sb (.inl e1)))
  refine wp_no (by simpa using e1) ?_
  by_cases e2 : Lb.length = 1
  · refine wp_yes (by simp [e2]) ?_
    exact wpS_pure (h _ _ (Gs.refl _) (Told.first at0 sa sb (by rw [e2]; exact hf1)))
  refine wp_no (by simpa using e2) ?_
  refine wpS_bind (wpS_get ?_)
  refine wpS_bind (wpS_mono (wpS_forRange
    (I := fun x r st' => Gs st st' /\ ∃ na nb out mg, r = (none, na, nb, out, mg) /\ Ah lt it La Lb out na nb /\ 0 < na /\ na <= La.length /\ 1 < nb /\ nb <= Lb.length /\ na + nb + x + 1 <= La.length + Lb.length)
    (Q := fun r st' => Gs st st' /\ ∃ res z, r = (some res, z) /\ Told lt it La Lb res) ?_ ?_ ⟨Gs.refl _, _, _, _, _, rfl, at0, by omega, by omega, by omega, by omega, by omega⟩) ?_)
  rotate_left
  · rintro r st' ⟨_, na, nb, out, mg, rfl, a1, a2, a3, a4, a5, a6⟩
    exfalso
    omega
  · rintro r st' ⟨g, res, z, rfl, t⟩
    exact wpS_pure (h _ _ g t)
  rintro x r st1 _ hx ⟨g1, na, nb, out, mg, rfl, a1, a2, a3, a4, a5, a6⟩
  dsimp only
  refine wpS_bind (wpS_mono (wpS_forRange
    (I := fun y r st' => st' = st1 /\ ∃ na' nb' out' ac bc, r = (none, na', nb', out', ac, bc) /\ Ah lt it La Lb out' na' nb' /\ 0 < na' /\ na' <= La.length /\ 1 < nb' /\ nb' <= Lb.length /\ na' + nb' + y <= na + nb)
    (Q := fun r st' => st' = st1 /\ ((∃ res z, r = (some res, z) /\ Told lt it La Lb res) \/ ∃ na' nb' out' ac bc, r = (none, na', nb', out', ac, bc) /\ Ah lt it La Lb out' na' nb' /\ 0 < na' /\ na' <= La.length /\ 1 < nb' /\ nb' <= Lb.length /\ na' + nb' + 1 <= na + nb)) ?_ ?_ ⟨rfl, _, _, _, _, _, rfl, a1, a2, a3, a4, a5, by omega⟩) ?_)
  · rintro y r st' _ hy ⟨rfl, na', nb', out, ac, bc, rfl, b1, b2, b3, b4, b5, b6⟩
    dsimp only
    refine wpS_bind (el_of (show nb' - 1 < Lb.length by omega) (wpS_bind (el_of (show na' - 1 < La.length by omega) (wpS_bind (lt_of c (g1.1.trans hk) (bN _ (List.getElem_mem _)) (aN _ (List.getElem_mem _)) ?_)))))
    cases w1 : lt Lb[nb' - 1] La[na' - 1] with
    | true =>
      dsimp only
      refine wp_yes rfl ?_
      refine wpS_bind (el_of (show na' - 1 < La.length by omega) ?_)
      have n1 := Ah.a1 b1 sa b2 b3 fun z hz => Le.tr o (last_ge o sb (by omega) b5 z hz) (o.as _ _ w1)
      by_cases f1 : na' - 1 = 0
      · refine wp_yes (by simp [f1]) ?_
        exact wpS_pure ⟨rfl, .inl ⟨_, _, rfl, Told.hi n1 sa sb (.inl f1)⟩⟩
      · refine wp_no (by simpa using f1) (wp_ite (fun _ => ?_) (fun _ => ?_))
        · exact wpS_pure ⟨rfl, .inr ⟨_, _, _, _, _, rfl, n1, by omega, by omega, b4, b5, by omega⟩⟩
        · exact wpS_pure ⟨rfl, _, _, _, _, _, rfl, n1, by omega, by omega, b4, b5, by omega⟩
    | false =>
      dsimp only
      refine wp_no (by decide) ?_
      refine wpS_bind (el_of (show nb' - 1 < Lb.length by omega) ?_)
      have n1 := Ah.b1 b1 sb (by omega) b5 fun z hz => Le.tr o (last_ge o sa b2 b3 z hz) w1
      by_cases f1 : nb' - 1 = 1
      · refine wp_yes (by simp [f1]) ?_
        exact wpS_pure ⟨rfl, .inl ⟨_, _, rfl, Told.first n1 sa sb (by rw [f1]; exact hf1)⟩⟩
      · refine wp_no (by simpa using f1) (wp_ite (fun _ => ?_) (fun _ => ?_))
        · exact wpS_pure ⟨rfl, .inr ⟨_, _, _, _, _, rfl, n1, b2, b3, by omega, by omega, by omega⟩⟩
        · exact wpS_pure ⟨rfl, _, _, _, _, _, rfl, n1, b2, b3, by omega, by omega, by omega⟩
  · rintro r st' ⟨_, na', nb', out, ac, bc, rfl, b1, b2, b3, b4, b5, b6⟩
    exfalso
    omega
  rintro r st' ⟨rfl, z⟩
  rcases z with ⟨res, z, rfl, t⟩ | ⟨na2, nb2, out2, ac, bc, rfl, b1, b2, b3, b4, b5, b6⟩
  · dsimp only
    exact wpS_pure ⟨g1, _, _, rfl, t⟩
  dsimp only
  refine wpS_bind (wpS_lift (wpAny_rule ⟨rfl, ?_⟩))
  refine wpS_bind (wpS_mono (wpS_forRange
    (I := fun y r st' => Gs st st' /\ ∃ na' nb' out' mg ac bc, r = (none, na', nb', out', mg, ac, bc) /\ Ah lt it La Lb out' na' nb' /\ 0 < na' /\ na' <= La.length /\ 1 < nb' /\ nb' <= Lb.length /\ na' + nb' + y + 1 <= na + nb)
    (Q := fun r st' => Gs st st' /\ ((∃ res z, r = (some res, z) /\ Told lt it La Lb res) \/ ∃ na' nb' out' mg ac bc, r = (none, na', nb', out', mg, ac, bc) /\ Ah lt it La Lb out' na' nb' /\ 0 < na' /\ na' <= La.length /\ 1 < nb' /\ nb' <= Lb.length /\ na' + nb' + 1 <= na + nb)) ?_ ?_ ⟨g1, _, _, _, _, _, _, rfl, b1, b2, b3, b4, b5, by omega⟩) ?_)
  rotate_left
  · rintro r st' ⟨_, na', nb', out, mg, ac, bc, rfl, b1, b2, b3, b4, b5, b6⟩
    exfalso
    omega
  · rintro r st' ⟨g2, z⟩
    rcases z with ⟨res, z, rfl, t⟩ | ⟨na3, nb3, out3, mg3, ac3, bc3, rfl, d1, d2, d3, d4, d5, d6⟩
    · dsimp only
      exact wpS_pure ⟨g2, _, _, rfl, t⟩
    · dsimp only
      refine wpS_bind (wpS_modify (wpS_pure ⟨⟨g2.1, g2.2.1, g2.2.2.1, g2.2.2.2⟩, _, _, _, _, rfl, d1, d2, d3, d4, d5, by omega⟩))
  clear b1 b2 b3 b4 b5 b6 a1
  rintro y r st2 _ hy ⟨g2, na', nb', out, mg, ac, bc, rfl, b1, b2, b3, b4, b5, b6⟩
  dsimp only
  refine wp_ite (fun _ => ?_) (fun _ => ?_)
  all_goals
    refine wpS_bind (wpS_modify ?_)
    refine wpS_bind (el_of (show nb' - 1 < Lb.length by omega) ?_)
    refine wpS_bind (gallopL_ok c o (by exact g2.1.trans hk) (bN _ (List.getElem_mem _)) aN (by omega) (by omega) sa fun k k1 k2 k3 => ?_)
    dsimp only
    simp only [Nat.zero_add] at k2 k3
    have A1 := b1.an sa k k1 fun x hx y hy => by
      rw [List.drop_take] at hy
      obtain ⟨j, j1, j2, rfl⟩ := mem_slice hy
      have := k3 (k + j) (by omega) (by omega)
      unfold Bey at this
      rw [if_neg (by decide)] at this
      exact Le.tr o (last_ge o sb (by omega) b5 x hx) (o.as _ _ (by simpa using this))
    have R1 : ∀ x ∈ La.take k, Le lt x Lb[nb' - 1] := fun x hx => by
      obtain ⟨j, j1, j2, rfl⟩ := mem_slice (b := 0) (by simpa using hx)
      have := k2 j j1
      unfold Bey at this
      rw [if_neg (by decide)] at this
      rw [Nat.zero_add]
      simpa using this
    by_cases kp : na' - k > 0
    case' pos =>
      refine wp_yes kp ?_
      by_cases f2 : k = 0
      · refine wp_yes (by simp [f2]) ?_
        exact wpS_pure ⟨⟨g2.1, g2.2.1, g2.2.2.1, g2.2.2.2⟩, .inl ⟨_, _, rfl, Told.hi A1 sa sb (.inl f2)⟩⟩
      refine wp_no (by simpa using f2) ?_
      have i3 : 0 < k := by omega
      have i4 : k <= na' := k1
      generalize out ++ ((La.map (kas_item it)).toArray.extract k na').reverse = o2 at A1 ⊢
      generalize na' - k = ck
      clear k2 k3 kp f2
      generalize k = i2 at A1 R1 i3 i4 ⊢
    case' neg =>
      refine wp_no kp ?_
      have k0 : k = na' := by omega
      rw [k0] at R1
      have i3 : 0 < na' := b2
      have i4 : na' <= na' := Nat.le_refl _
      clear A1
      have A1 := b1
      rw [k0] at *
      clear k1 k2 k3 k0
      generalize out = o2 at A1 ⊢
      generalize na' - na' = ck
      obtain ⟨i2, ei2⟩ : ∃ i2, i2 = na' := ⟨_, rfl⟩
      rw [<- ei2] at A1 R1 i3 ⊢
      have i4 : i2 <= na' := by omega
    all_goals
      refine wpS_bind (el_of (show nb' - 1 < Lb.length by omega) ?_)
      have A2 := Ah.b1 A1 sb (by omega) b5 R1
      by_cases f3 : nb' - 1 = 1
      · refine wp_yes (by simp [f3]) ?_
        exact wpS_pure ⟨⟨g2.1, g2.2.1, g2.2.2.1, g2.2.2.2⟩, .inl ⟨_, _, rfl, Told.first A2 sa sb (by rw [f3]; exact hf1)⟩⟩
      refine wp_no (by simpa using f3) ?_
      refine wpS_bind (el_of (show i2 - 1 < La.length by omega) ?_)
      refine wpS_bind (gallopL_ok c o (by exact g2.1.trans hk) (aN _ (List.getElem_mem _)) bN (by omega) (by omega) sb fun m m1 m2 m3 => ?_)
      dsimp only
      simp only [Nat.zero_add] at m2 m3
      have A3 := A2.bn sb m m1 fun x hx y hy => by
        rw [List.drop_take] at hy
        obtain ⟨j, j1, j2, rfl⟩ := mem_slice hy
        have := m3 (m + j) (by omega) (by omega)
        unfold Bey at this
        rw [if_pos rfl] at this
        exact Le.tr o (last_ge o sa i3 (by omega) x hx) this
      have R3 : ∀ x ∈ Lb.take m, Le lt x La[i2 - 1] := fun x hx => by
        obtain ⟨j, j1, j2, rfl⟩ := mem_slice (b := 0) (by simpa using hx)
        have := m2 j j1
        unfold Bey at this
        rw [if_pos rfl] at this
        rw [Nat.zero_add]
        exact o.as _ _ this
      by_cases mp : nb' - 1 - m > 0
      case' pos =>
        refine wp_yes mp ?_
        by_cases f4 : m = 1
        · refine wp_yes (by simp [f4]) ?_
          exact wpS_pure ⟨⟨g2.1, g2.2.1, g2.2.2.1, g2.2.2.2⟩, .inl ⟨_, _, rfl, Told.first A3 sa sb (by rw [f4]; exact hf1)⟩⟩
        refine wp_no (by simpa using f4) ?_
        by_cases f5 : m = 0
        · refine wp_yes (by simp [f5]) ?_
          exact wpS_pure ⟨⟨g2.1, g2.2.1, g2.2.2.1, g2.2.2.2⟩, .inl ⟨_, _, rfl, Told.hi A3 sa sb (.inr f5)⟩⟩
        refine wp_no (by simpa using f5) ?_
        have j3 : 1 < m := by omega
        have j4 : m + 1 <= nb' := by omega
        generalize o2.push (kas_item it Lb[nb' - 1]) ++ ((Lb.map (kas_item it)).toArray.extract m (nb' - 1)).reverse = o3 at A3 ⊢
        generalize nb' - 1 - m = cm
        clear m2 m3 mp f4 f5
        generalize m = j2 at A3 R3 j3 j4 ⊢
      case' neg =>
        refine wp_no mp ?_
        have m0 : m = nb' - 1 := by omega
        rw [m0] at R3
        clear A3
        have A3 := A2
        generalize nb' - 1 - m = cm
        generalize o2.push (kas_item it Lb[nb' - 1]) = o3 at A3 ⊢
        obtain ⟨j2, ej2⟩ : ∃ j2, j2 = nb' - 1 := ⟨_, rfl⟩
        rw [<- ej2] at A3 R3 ⊢
        have j3 : 1 < j2 := by omega
        have j4 : j2 + 1 <= nb' := by omega
      all_goals
        refine wpS_bind (el_of (show i2 - 1 < La.length by omega) ?_)
        have A4 := Ah.a1 A3 sa i3 (by omega) R3
        by_cases f6 : i2 - 1 = 0
        · refine wp_yes (by simp [f6]) ?_
          exact wpS_pure ⟨⟨g2.1, g2.2.1, g2.2.2.1, g2.2.2.2⟩, .inl ⟨_, _, rfl, Told.hi A4 sa sb (.inl f6)⟩⟩
        refine wp_no (by simpa using f6) (wp_ite (fun _ => ?_) (fun _ => ?_))
        · exact wpS_pure ⟨⟨g2.1, g2.2.1, g2.2.2.1, g2.2.2.2⟩, .inr ⟨_, _, _, _, _, _, rfl, A4, by omega, by omega, j3, by omega, by omega⟩⟩
        · exact wpS_pure ⟨⟨g2.1, g2.2.1, g2.2.2.1, g2.2.2.2⟩, _, _, _, _, _, _, rfl, A4, by omega, by omega, j3, by omega, by omega⟩
end
end L2
namespace L2
open PySem PySem.W PyProof.Rows
section
variable {prog : Program} {w : World} {A : Around} {E : Value -> Shared -> Prop} {s : Shared} {κ : SortKind} {it : Array Keyed} {lt : Nat -> Nat -> Bool} {N : Nat}
theorem wpS_put {x st : SortSt} {Q : PUnit -> SortSt -> Prop} (h : Q ⟨⟩ x) : wpS (model prog w) A E s (set x : StateT SortSt Sem PUnit) Q st := by
  unfold wpS
  rw [StateT.run_set]
  exact wpAny_pure ⟨rfl, h⟩
theorem gallopS_ok {left : Bool} {k : Nat} {L X : List Nat} {base hint : Nat} {st : SortSt} {Q : Option Nat -> SortSt -> Prop} (c : Cmp prog w A κ it lt N s) (o : Ord lt) (hk : kindOf st = κ) (kN : k < N) (qN : ∀ x ∈ L, x < N) (hb : base + X.length <= L.length) (hs : ∀ j, j < X.length -> L.getD (base + j) 0 = X.getD j 0) (hh : hint < X.length) (sX : X.Pairwise (Le lt))
    (h : ∀ r, r <= X.length -> (∀ x ∈ X.take r, Bey lt left k x = true) -> (∀ x ∈ X.drop r, Bey lt left k x = false) -> Q (some r) st) :
    wpS (model prog w) A E s (gallop' left (kas_item it k) (L.map (kas_item it)).toArray base X.length hint) Q st := by
  have e : (L.map (kas_item it)).toArray = L.toArray.map (kas_item it) := by simp
  have g : ∀ i, L.toArray.getD i 0 = L.getD i 0 := fun i => by rw [Array.getD_eq_getD_getElem?, List.getD_eq_getElem?_getD]; simp
  rw [e]
  refine gallop_ok c hk kN (fun i hi => ?_) (by simpa using hb) hh (fun i j hij hj hB => ?_) (fun r r1 r2 r3 => h r r1 (fun x hx => ?_) (fun x hx => ?_))
  · rw [g]
    have hi' : i < L.length := by simpa using hi
    rw [List.getD_eq_getElem?_getD, List.getElem?_eq_getElem hi']
    exact qN _ (List.getElem_mem hi')
  · rw [g, hs _ (by omega)] at hB ⊢
    have lij : Le lt (X.getD i 0) (X.getD j 0) := by
      have h1 : i < X.length := by omega
      rw [List.getD_eq_getElem?_getD, List.getElem?_eq_getElem h1, List.getD_eq_getElem?_getD, List.getElem?_eq_getElem hj]
      by_cases e : i = j
      · subst e; exact o.rf _
      · exact List.pairwise_iff_getElem.mp sX _ _ h1 hj (by omega)
    unfold Bey at hB ⊢
    cases left with
    | true =>
      rw [if_pos rfl] at hB ⊢
      cases z : lt (X.getD i 0) k with
      | true => rfl
      | false => rw [Le.tr o (x := k) z lij] at hB; cases hB
    | false =>
      rw [if_neg (by decide)] at hB ⊢
      have hB' : Le lt (X.getD j 0) k := by simpa using hB
      have := Le.tr o lij hB'
      rw [this]
      rfl
  · obtain ⟨i, i1, i2, rfl⟩ := mem_slice (b := 0) (by simpa using hx)
    rw [Nat.zero_add] at i2 ⊢
    have := r2 i i1
    rw [g, hs _ i2] at this
    exact this
  · obtain ⟨i, i1, rfl⟩ := mem_dropN hx
    have := r3 (r + i) (by omega) i1
    rw [g, hs _ i1] at this
    exact this
theorem mid_of {α β : Type} (f : α -> β) (P B C : List α) (a b : Nat) (ha : a = P.length) (hb : b = P.length + B.length) : ((P ++ B ++ C).map f).toArray.extract a b = (B.map f).toArray := by
  subst ha hb
  apply Array.toList_inj.mp
  simp
theorem set_go {α : Type} (b : Nat) : ∀ (M P X Z : List α) (k : Nat), P.length = b + k -> X.length = M.length -> ((M.zipIdx k).foldl (fun (a : Array α) (p : α × Nat) => a.setIfInBounds (b + p.2) p.1) (P ++ X ++ Z).toArray) = (P ++ M ++ Z).toArray
  | [], P, X, Z, k, _, h => by
    have : X = [] := List.eq_nil_of_length_eq_zero (by simpa using h)
    subst this
    rfl
  | m :: M, P, X, Z, k, hp, h => by
    cases X with
    | nil => simp at h
    | cons x X =>
      rw [List.zipIdx_cons, List.foldl_cons]
      have e : (P ++ x :: X ++ Z).toArray.setIfInBounds (b + k) m = ((P ++ [m]) ++ X ++ Z).toArray := by
        apply Array.toList_inj.mp
        rw [Array.toList_setIfInBounds]
        show (P ++ x :: X ++ Z).set (b + k) m = P ++ [m] ++ X ++ Z
        rw [<- hp]
        simp
      show (M.zipIdx (k + 1)).foldl _ ((P ++ x :: X ++ Z).toArray.setIfInBounds (b + k) m) = _
      rw [e, set_go b M (P ++ [m]) X Z (k + 1) (by rw [List.length_append]; show P.length + 1 = _; omega) (by simpa using h)]
      simp
structure StAt (κ : SortKind) (it : Array Keyed) (st : SortSt) (L : List Nat) (pd : Array (Nat × Nat × Nat)) : Prop where
  k : kindOf st = κ
  a : arrOf st = (L.map (kas_item it)).toArray
  p : pendingOf st = pd
  f : failedOf st = none
theorem mergeAt_ok {i : Nat} {P X Y Z : List Nat} {pd : Array (Nat × Nat × Nat)} {pw pw2 : Nat} {st : SortSt} {Q : Bool -> SortSt -> Prop} (c : Cmp prog w A κ it lt N s) (o : Ord lt) (h0 : StAt κ it st (P ++ X ++ Y ++ Z) pd) (lN : ∀ x ∈ P ++ X ++ Y ++ Z, x < N)
    (p1 : pd[i]? = some (P.length, X.length, pw)) (p2 : pd[i + 1]? = some (P.length + X.length, Y.length, pw2)) (hX : 0 < X.length) (hY : 0 < Y.length) (sX : X.Pairwise (Le lt)) (sY : Y.Pairwise (Le lt))
    (h : ∀ st' W, StAt κ it st' (P ++ W ++ Z) ((pd.setIfInBounds i (P.length, X.length + Y.length, pw)).eraseIdxIfInBounds (i + 1)) -> W.Perm (X ++ Y) -> W.Pairwise (Le lt) -> Q true st') : wpS (model prog w) A E s (mergeAt' i) Q st := by
  rcases st with ⟨kd, ar, pn, gl, fl⟩
  have ek : kd = κ := h0.k
  have ea : ar = ((P ++ X ++ Y ++ Z).map (kas_item it)).toArray := h0.a
  have ep : pn = pd := h0.p
  have ef : fl = none := h0.f
  subst ek ea ep ef
  refine wpS_bind (wpS_get ?_)
  have hL : ∀ j, j < Y.length -> (P ++ X ++ Y ++ Z).getD (P.length + X.length + j) 0 = Y.getD j 0 := fun j hj => by
    rw [List.getD_eq_getElem?_getD, List.getD_eq_getElem?_getD, List.append_assoc, List.append_assoc, List.getElem?_append_right (by omega), List.getElem?_append_right (by omega), List.getElem?_append_left (by omega)]
    congr 2
    omega
  have hL2 : ∀ j, j < X.length -> (P ++ X ++ Y ++ Z).getD (P.length + j) 0 = X.getD j 0 := fun j hj => by
    rw [List.getD_eq_getElem?_getD, List.getD_eq_getElem?_getD, List.append_assoc, List.append_assoc, List.getElem?_append_right (by omega), List.getElem?_append_left (by omega)]
    congr 2
    omega
  have ll : (P ++ X ++ Y ++ Z).length = P.length + X.length + Y.length + Z.length := by simp; omega
  have gE : ∀ (L : List Nat) (i : Nat) (h : i < L.length), L[i] = L.getD i 0 := fun L i h => by rw [List.getD_eq_getElem?_getD, List.getElem?_eq_getElem h]; rfl
  have xN : ∀ x ∈ X, x < N := fun x hx => lN x (by simp [hx])
  have yN : ∀ x ∈ Y, x < N := fun x hx => lN x (by simp [hx])
  dsimp only
  rw [p1, p2]
  dsimp only
  refine wpS_bind (wpS_put ?_)
  refine wpS_bind (el_of (show P.length + X.length < (P ++ X ++ Y ++ Z).length by omega) ?_)
  have y0 : (P ++ X ++ Y ++ Z)[P.length + X.length]'(by omega) = Y[0] := by
    rw [gE, gE, <- hL 0 hY, Nat.add_zero]
  rw [y0]
  refine wpS_bind (gallopS_ok c o (by exact h0.k) (yN _ (List.getElem_mem _)) lN (by omega) hL2 hX sX fun k k1 k2 k3 => ?_)
  dsimp only
  have X1 : ∀ x ∈ X.take k, Le lt x Y[0] := fun x hx => by
    have := k2 x hx
    unfold Bey at this
    rw [if_neg (by decide)] at this
    simpa using this
  have X2 : ∀ x ∈ X.drop k, Le lt Y[0] x := fun x hx => by
    have := k3 x hx
    unfold Bey at this
    rw [if_neg (by decide)] at this
    exact o.as _ _ (by simpa using this)
  have Y0 : ∀ y ∈ Y, Le lt Y[0] y := fun y hy => head_le o sY hY y (by simpa using hy)
  by_cases f1 : X.length - k = 0
  · refine wp_yes (by simp [f1]) (wpS_pure (h _ (X ++ Y) ⟨h0.k, ?_, ?_, h0.f⟩ (List.Perm.refl _) ?_))
    · rw [<- List.append_assoc]
    · rfl
    · refine List.pairwise_append.mpr ⟨sX, sY, fun x hx y hy => Le.tr o (X1 x ?_) (Y0 y hy)⟩
      rw [List.take_of_length_le (by omega)]
      exact hx
  refine wp_no (by simpa using f1) ?_
  have kl : k < X.length := by omega
  refine wpS_bind (el_of (show P.length + k + (X.length - k) - 1 < (P ++ X ++ Y ++ Z).length by omega) ?_)
  have xl : (P ++ X ++ Y ++ Z)[P.length + k + (X.length - k) - 1]'(by omega) = X[X.length - 1] := by
    rw [gE, gE, <- hL2 (X.length - 1) (by omega)]
    congr 1
    omega
  rw [xl]
  refine wpS_bind (gallopS_ok c o (by exact h0.k) (xN _ (List.getElem_mem _)) lN (by omega) hL (show Y.length - 1 < Y.length by omega) sY fun m m1 m2 m3 => ?_)
  dsimp only
  have Y1 : ∀ y ∈ Y.take m, Le lt y X[X.length - 1] := fun y hy => by
    have := m2 y hy
    unfold Bey at this
    rw [if_pos rfl] at this
    exact o.as _ _ this
  have Y2 : ∀ y ∈ Y.drop m, Le lt X[X.length - 1] y := fun y hy => by
    have := m3 y hy
    unfold Bey at this
    rw [if_pos rfl] at this
    exact this
  have XL : ∀ x ∈ X, Le lt x X[X.length - 1] := fun x hx => last_ge o sX hX (Nat.le_refl _) x (by simpa using hx)
  by_cases f2 : m = 0
  · refine wp_yes (by simp [f2]) (wpS_pure (h _ (X ++ Y) ⟨h0.k, ?_, ?_, h0.f⟩ (List.Perm.refl _) ?_))
    · rw [<- List.append_assoc]
    · rfl
    · refine List.pairwise_append.mpr ⟨sX, sY, fun x hx y hy => Le.tr o (XL x hx) (Y2 y ?_)⟩
      rw [f2]
      exact hy
  refine wp_no (by simpa using f2) ?_
  have xe : ((P ++ X ++ Y ++ Z).map (kas_item it)).toArray.extract (P.length + k) (P.length + X.length) = ((X.drop k).map (kas_item it)).toArray := by
    have e : P ++ X ++ Y ++ Z = (P ++ X.take k) ++ X.drop k ++ (Y ++ Z) := by
      simp only [List.append_assoc]
      rw [<- List.append_assoc (X.take k), List.take_append_drop]
    rw [e]
    exact mid_of _ _ _ _ _ _ (by rw [List.length_append, List.length_take]; omega) (by rw [List.length_append, List.length_take, List.length_drop]; omega)
  have ye : ((P ++ X ++ Y ++ Z).map (kas_item it)).toArray.extract (P.length + X.length) (P.length + X.length + m) = ((Y.take m).map (kas_item it)).toArray := by
    have e : P ++ X ++ Y ++ Z = (P ++ X) ++ Y.take m ++ (Y.drop m ++ Z) := by
      simp only [List.append_assoc]
      rw [<- List.append_assoc (Y.take m), List.take_append_drop]
    rw [e]
    exact mid_of _ _ _ _ _ _ (by rw [List.length_append]) (by rw [List.length_append, List.length_take]; omega)
  rw [xe, ye]
  have dl : (X.drop k).length = X.length - k := List.length_drop
  have tl : (Y.take m).length = m := by rw [List.length_take]; omega
  have t0 : (Y.take m)[0]'(by omega) = Y[0] := List.getElem_take
  have d9 : (X.drop k)[(X.drop k).length - 1]'(by omega) = X[X.length - 1] := by
    rw [List.getElem_drop]
    congr 1
    omega
  have fin : ∀ (res : Array Keyed) (st' : SortSt), Gs (SortSt.mk' kd ((P ++ X ++ Y ++ Z).map (kas_item it)).toArray ((pn.setIfInBounds i (P.length, X.length + Y.length, pw)).eraseIdxIfInBounds (i + 1)) gl none) st' -> Told lt it (X.drop k) (Y.take m) res ->
      wpS (model prog w) A E s (modify (fun s => SortSt.mk' (kindOf s) (res.toList.zipIdx.foldl (fun (a : Array Keyed) (x : Keyed × Nat) => match x with | (p, j) => a.setIfInBounds (P.length + k + j) p) (arrOf s)) (pendingOf s) (gallopOf s) (failedOf s)) >>= fun _ => get >>= fun s => pure (failedOf s).isNone) Q st' := by
    intro res st' g ⟨M, eM, pM, sM⟩
    rcases st' with ⟨kd', ar', pn', gl', fl'⟩
    obtain ⟨g1, g2, g3, g4⟩ := g
    have q1 : kd' = kd := g1
    have q2 : ar' = ((P ++ X ++ Y ++ Z).map (kas_item it)).toArray := g2
    have q3 : pn' = (pn.setIfInBounds i (P.length, X.length + Y.length, pw)).eraseIdxIfInBounds (i + 1) := g3
    have q4 : fl' = none := g4
    subst q1 q2 q3 q4
    refine wpS_bind (wpS_modify (wpS_bind (wpS_get (wpS_pure ?_))))
    refine h _ (X.take k ++ M ++ Y.drop m) ⟨rfl, ?_, rfl, rfl⟩ ?_ ?_
    · show res.toList.zipIdx.foldl _ ((P ++ X ++ Y ++ Z).map (kas_item it)).toArray = _
      have e : (P ++ X ++ Y ++ Z).map (kas_item it) = (P ++ X.take k).map (kas_item it) ++ (X.drop k ++ Y.take m).map (kas_item it) ++ (Y.drop m ++ Z).map (kas_item it) := by
        rw [<- List.map_append, <- List.map_append]
        congr 1
        simp only [List.append_assoc]
        rw [<- List.append_assoc (X.take k), List.take_append_drop, <- List.append_assoc (Y.take m), List.take_append_drop]
      rw [eM, e]
      have := set_go (P.length + k) (M.map (kas_item it)) ((P ++ X.take k).map (kas_item it)) ((X.drop k ++ Y.take m).map (kas_item it)) ((Y.drop m ++ Z).map (kas_item it)) 0 (by rw [List.length_map, List.length_append, List.length_take]; omega) (by rw [List.length_map, List.length_map, pM.length_eq])
      refine Eq.trans this ?_
      congr 1
      rw [<- List.map_append, <- List.map_append]
      congr 1
      simp only [List.append_assoc]
    · have : (X.take k ++ M ++ Y.drop m).Perm (X.take k ++ (X.drop k ++ Y.take m) ++ Y.drop m) := List.Perm.append_right _ (List.Perm.append_left _ pM)
      refine this.trans ?_
      rw [<- List.append_assoc, List.take_append_drop, List.append_assoc, List.take_append_drop]
    · have hM : ∀ z ∈ M, z ∈ X.drop k \/ z ∈ Y.take m := fun z hz => List.mem_append.mp (pM.mem_iff.mp hz)
      have sY' : (Y.take m ++ Y.drop m).Pairwise (Le lt) := by rw [List.take_append_drop]; exact sY
      have sX' : (X.take k ++ X.drop k).Pairwise (Le lt) := by rw [List.take_append_drop]; exact sX
      refine List.pairwise_append.mpr ⟨List.pairwise_append.mpr ⟨sX.sublist (List.take_sublist _ _), sM, fun x hx z hz => ?_⟩, sY.sublist (List.drop_sublist _ _), fun z hz y hy => ?_⟩
      · rcases hM z hz with hz | hz
        · exact (List.pairwise_append.mp sX').2.2 x hx z hz
        · exact Le.tr o (X1 x hx) (Y0 z (List.mem_of_mem_take hz))
      · rcases List.mem_append.mp hz with hz | hz
        · exact Le.tr o (XL z (List.mem_of_mem_take hz)) (Y2 y hy)
        · rcases hM z hz with hz | hz
          · exact Le.tr o (XL z (List.mem_of_mem_drop hz)) (Y2 y hy)
          · exact (List.pairwise_append.mp sY').2.2 z hz y hy
  refine wp_ite (fun _ => ?_) (fun _ => ?_)
  · refine wpS_bind (mergeLo_ok c o (by exact h0.k) (fun x hx => xN x (List.mem_of_mem_drop hx)) (fun x hx => yN x (List.mem_of_mem_take hx)) (sX.sublist (List.drop_sublist _ _)) (sY.sublist (List.take_sublist _ _)) (by omega) (by omega) ?_ ?_ fun res st' g tt => ?_)
    · rw [t0]; exact X2
    · intro x hx y hy
      have e : (X.drop k).drop ((X.drop k).length - 1) = [X[X.length - 1]] := by
        rw [List.drop_eq_getElem_cons (show (X.drop k).length - 1 < (X.drop k).length by omega), d9]
        congr 1
        exact List.drop_eq_nil_of_le (by omega)
      rw [e] at hy
      rw [List.mem_singleton.mp hy]
      exact Y1 x hx
    · exact fin res st' g tt
  · refine wpS_bind (mergeHi_ok c o (by exact h0.k) (fun x hx => xN x (List.mem_of_mem_drop hx)) (fun x hx => yN x (List.mem_of_mem_take hx)) (sX.sublist (List.drop_sublist _ _)) (sY.sublist (List.take_sublist _ _)) (by omega) (by omega) ?_ ?_ fun res st' g tt => ?_)
    · rw [t0]; exact X2
    · rw [d9]; exact Y1
    · exact fin res st' g tt
end
end L2
namespace L2
open PySem PySem.W PyProof.Rows
section
variable {prog : Program} {w : World} {A : Around} {E : Value -> Shared -> Prop} {s : Shared} {κ : SortKind} {it : Array Keyed} {lt : Nat -> Nat -> Bool} {N : Nat}
structure StP (κ : SortKind) (it : Array Keyed) (st : SortSt) (p : Array Nat) (pd : Array (Nat × Nat × Nat)) : Prop where
  k : kindOf st = κ
  a : arrOf st = p.map (kas_item it)
  p : pendingOf st = pd
  f : failedOf st = none
def UpF (lt : Nat -> Nat -> Bool) (p : Array Nat) (lo n : Nat) : Prop := ∀ i j, lo <= i -> i <= j -> j < lo + n -> lt (p.getD j 0) (p.getD i 0) = false
theorem ltAt_ok {i j : Nat} {p : Array Nat} {pd : Array (Nat × Nat × Nat)} {st : SortSt} {Q : Option Bool -> SortSt -> Prop} (c : Cmp prog w A κ it lt N s) (B : PB N p) (S : StP κ it st p pd) (hi : i < N) (hj : j < N) (h : Q (some (lt (p.getD i 0) (p.getD j 0))) st) : wpS (model prog w) A E s (ltAt' i j) Q st := by
  rw [ltAt'_eq]
  refine wpS_bind (wpS_get ?_)
  show wpS _ _ _ _ (elem' (arrOf st) i >>= fun x => elem' (arrOf st) j >>= fun y => lt' x y) Q st
  rw [S.a]
  refine wpS_bind (elem_of (by rw [B.size]; exact hi) (wpS_bind (elem_of (by rw [B.size]; exact hj) ?_)))
  exact lt_of c S.k (B.lt hi) (B.lt hj) h
theorem move_ok {k l : Nat} {p : Array Nat} {pd : Array (Nat × Nat × Nat)} {st : SortSt} {Q : Unit -> SortSt -> Prop} (S : StP κ it st p pd) (h : ∀ st', StP κ it st' (bubble p k (k - l)) pd -> Q () st') : wpS (model prog w) A E s (moveDown' k l) Q st := by
  rw [moveDown'_eq]
  refine wpS_modify (h _ ⟨S.k, ?_, S.p, S.f⟩)
  show bubble (arrOf st) k (k - l) = _
  rw [S.a]
  exact kas_swaps_map (kas_item it) (fun i => k - i) (fun i => k - i - 1) _ p
theorem rev_ok {i j : Nat} {p : Array Nat} {pd : Array (Nat × Nat × Nat)} {st : SortSt} {Q : Unit -> SortSt -> Prop} (S : StP κ it st p pd) (h : ∀ st', StP κ it st' (kas_rev p i j) pd -> Q () st') : wpS (model prog w) A E s (reverseSlice' i j) Q st := by
  rw [reverseSlice'_eq]
  refine wpS_modify (h _ ⟨S.k, ?_, S.p, S.f⟩)
  show mirror (arrOf st) i j ((j - i) / 2) = _
  rw [S.a]
  exact kas_swaps_map (kas_item it) (fun k => i + k) (fun k => j - 1 - k) _ p
theorem ins_up (o : Ord lt) {p : Array Nat} {lo k l : Nat} (B : PB N p) (hk : lo + k < N) (hl : l <= k) (h : UpF lt p lo k) (h1 : ∀ i, i < l -> Le lt (p.getD (lo + i) 0) (p.getD (lo + k) 0)) (h2 : ∀ i, l <= i -> i < k -> Le lt (p.getD (lo + k) 0) (p.getD (lo + i) 0)) :
    UpF lt (bubble p (lo + k) (lo + k - (lo + l))) lo (k + 1) := by
  intro i j hi hij hj
  rw [bub_at B hk (by omega), bub_at B hk (by omega)]
  by_cases a : j = lo + l
  · rw [if_pos a]
    by_cases b : i = lo + l
    · rw [if_pos b]; exact o.rf _
    · rw [if_neg b, if_neg (by omega)]
      have := h1 (i - lo) (by omega)
      rw [show lo + (i - lo) = i by omega] at this
      exact this
  · rw [if_neg a]
    by_cases b : lo + l < j /\ j <= lo + k
    · rw [if_pos b]
      by_cases d : i = lo + l
      · rw [if_pos d]
        have := h2 (j - 1 - lo) (by omega) (by omega)
        rw [show lo + (j - 1 - lo) = j - 1 by omega] at this
        exact this
      · rw [if_neg d]
        by_cases e : lo + l < i /\ i <= lo + k
        · rw [if_pos e]; exact h _ _ (by omega) (by omega) (by omega)
        · rw [if_neg e]; exact h _ _ (by omega) (by omega) (by omega)
    · rw [if_neg b]
      rw [if_neg (by omega), if_neg (by omega)]
      exact h _ _ hi hij (by omega)
theorem binary_ok {lo n ok : Nat} {p : Array Nat} {pd : Array (Nat × Nat × Nat)} {st : SortSt} {Q : Bool -> SortSt -> Prop} (c : Cmp prog w A κ it lt N s) (o : Ord lt) (B : PB N p) (S : StP κ it st p pd) (hn : lo + n <= N) (h1 : 1 <= n) (hok : ok <= n) (u : UpF lt p lo ok)
    (h : ∀ st' p', StP κ it st' p' pd -> PB N p' -> UpF lt p' lo n -> (∀ i, i < lo -> p'.getD i 0 = p.getD i 0) -> Q true st') : wpS (model prog w) A E s (binarySort' lo n ok) Q st := by
  refine wpS_bind (wpS_mono (wpS_forRange
    (I := fun k r st' => r = (none, ()) /\ ∃ p', StP κ it st' p' pd /\ PB N p' /\ UpF lt p' lo k /\ (∀ i, i < lo -> p'.getD i 0 = p.getD i 0))
    (Q := fun r st' => r = (none, ()) /\ ∃ p', StP κ it st' p' pd /\ PB N p' /\ UpF lt p' lo n /\ (∀ i, i < lo -> p'.getD i 0 = p.getD i 0)) ?_ ?_ ⟨rfl, p, S, B, ?_, fun _ _ => rfl⟩) ?_)
  · rintro k r st' hk1 hk2 ⟨rfl, p', S', B', u', e'⟩
    refine wpS_bind (wpS_mono (wpS_forRange
      (I := fun x r st'' => st'' = st' /\ ∃ l m, r = (none, l, m) /\ l <= m /\ m <= k /\ m - l + x <= k /\ (∀ i, i < l -> Le lt (p'.getD (lo + i) 0) (p'.getD (lo + k) 0)) /\ (∀ i, m <= i -> i < k -> Le lt (p'.getD (lo + k) 0) (p'.getD (lo + i) 0)))
      (Q := fun r st'' => st'' = st' /\ ∃ l m, r = (none, l, m) /\ l <= k /\ (∀ i, i < l -> Le lt (p'.getD (lo + i) 0) (p'.getD (lo + k) 0)) /\ (∀ i, l <= i -> i < k -> Le lt (p'.getD (lo + k) 0) (p'.getD (lo + i) 0))) ?_ ?_ ⟨rfl, 0, k, rfl, by omega, by omega, by omega, fun i hi => absurd hi (by omega), fun i h1 h2 => absurd h1 (by omega)⟩) ?_)
    · rintro x r st'' _ hx ⟨rfl, l, m, rfl, l1, l2, l3, l4, l5⟩
      dsimp only
      by_cases e : l >= m
      · refine wp_yes e (wpS_pure ⟨rfl, l, m, rfl, by omega, l4, fun i h1 h2 => l5 i (by omega) h2⟩)
      refine wp_no e (wpS_bind (ltAt_ok c B' S' (by omega) (by omega) ?_))
      cases z : lt (p'.getD (lo + k) 0) (p'.getD (lo + (l + m) / 2) 0) with
      | true =>
        dsimp only
        refine wp_yes rfl (wpS_pure ⟨rfl, l, (l + m) / 2, rfl, by omega, by omega, by omega, l4, fun i h1 h2 => Le.tr o (o.as _ _ z) (u' _ _ (by omega) (by omega) (by omega))⟩)
      | false =>
        dsimp only
        refine wp_no (by decide) (wpS_pure ⟨rfl, (l + m) / 2 + 1, m, rfl, by omega, by omega, by omega, fun i hi => Le.tr o (u' _ _ (by omega) (by omega) (by omega)) z, l5⟩)
    · rintro r st'' ⟨rfl, l, m, rfl, l1, l2, l3, l4, l5⟩
      exact ⟨rfl, l, m, rfl, by omega, l4, fun i h1 h2 => l5 i (by omega) h2⟩
    · rintro r st'' ⟨rfl, l, m, rfl, l1, l4, l5⟩
      dsimp only
      refine wpS_bind (move_ok S' fun st3 S3 => wpS_pure ⟨rfl, _, S3, B'.bub _ _, ins_up o B' (by omega) l1 u' l4 l5, fun i hi => ?_⟩)
      rw [bub_at B' (by omega) (by omega), if_neg (by omega), if_neg (by omega)]
      exact e' i hi
  · rintro r st' ⟨rfl, p', S', B', u', e'⟩
    exact ⟨rfl, p', S', B', by rw [show max (max ok 1) n = n by omega] at u'; exact u', e'⟩
  · intro i j hi hij hj
    by_cases e : i = j
    · subst e; exact o.rf _
    · exact u i j hi hij (by omega)
  · rintro r st' ⟨rfl, p', S', B', u', e'⟩
    exact wpS_pure (h st' p' S' B' u' e')
end
end L2
namespace L2
open PySem PySem.W PyProof.Rows
section
variable {prog : Program} {w : World} {A : Around} {E : Value -> Shared -> Prop} {s : Shared} {κ : SortKind} {it : Array Keyed} {lt : Nat -> Nat -> Bool} {N : Nat}
def DownF (lt : Nat -> Nat -> Bool) (p : Array Nat) (lo n : Nat) : Prop := ∀ i j, lo <= i -> i <= j -> j < lo + n -> lt (p.getD i 0) (p.getD j 0) = false
theorem up_moreF (o : Ord lt) {p : Array Nat} {lo n : Nat} (h : UpF lt p lo n) (n1 : 1 <= n) (c : lt (p.getD (lo + n) 0) (p.getD (lo + n - 1) 0) = false) : UpF lt p lo (n + 1) := by
  intro i j hi hij hj
  by_cases e : j = lo + n
  · subst e
    by_cases e2 : i = lo + n
    · subst e2; exact o.rf _
    · exact o.tr _ _ _ (h i (lo + n - 1) hi (by omega) (by omega)) c
  · exact h i j hi hij (by omega)
theorem down_moreF (o : Ord lt) {p : Array Nat} {lo n : Nat} (h : DownF lt p lo n) (n1 : 1 <= n) (c : lt (p.getD (lo + n - 1) 0) (p.getD (lo + n) 0) = false) : DownF lt p lo (n + 1) := by
  intro i j hi hij hj
  by_cases e : j = lo + n
  · subst e
    by_cases e2 : i = lo + n
    · subst e2; exact o.rf _
    · exact o.tr _ _ _ c (h i (lo + n - 1) hi (by omega) (by omega))
  · exact h i j hi hij (by omega)
theorem down_flatF {p : Array Nat} (B : PB N p) {lo n q : Nat} (hn : lo + n <= N) (hq : q + 1 <= n) (h : DownF lt p lo n) (fl : Flat lt p (lo + n - (q + 1)) (lo + n)) : DownF lt (kas_rev p (lo + n - (q + 1)) (lo + n)) lo n := by
  intro i j hi hij hj
  rw [rev_at B hn, rev_at B hn]
  by_cases c1 : lo + n - (q + 1) <= i /\ i < lo + n
  · rw [if_pos c1, if_pos (by omega)]
    exact fl _ _ (by omega) (by omega) (by omega) (by omega)
  · rw [if_neg c1]
    by_cases c2 : lo + n - (q + 1) <= j /\ j < lo + n
    · rw [if_pos c2]
      exact h _ _ hi (by omega) (by omega)
    · rw [if_neg c2]
      exact h _ _ hi hij hj
theorem down_revF {p : Array Nat} (B : PB N p) {lo n : Nat} (hn : lo + n <= N) (h : DownF lt p lo n) : UpF lt (kas_rev p lo (lo + n)) lo n := by
  intro i j hi hij hj
  rw [rev_at B hn, rev_at B hn, if_pos (by omega), if_pos (by omega)]
  exact h _ _ (by omega) (by omega) (by omega)
theorem count_ok {lo nrem : Nat} {p : Array Nat} {pd : Array (Nat × Nat × Nat)} {st : SortSt} {Q : Option Nat -> SortSt -> Prop} (c : Cmp prog w A κ it lt N s) (o : Ord lt) (B : PB N p) (S : StP κ it st p pd) (hn : lo + nrem <= N) (h1 : 1 <= nrem)
    (h : ∀ st' p' n, StP κ it st' p' pd -> PB N p' -> 1 <= n -> n <= nrem -> UpF lt p' lo n -> (∀ i, i < lo -> p'.getD i 0 = p.getD i 0) -> Q (some n) st') : wpS (model prog w) A E s (countRun' lo nrem) Q st := by
  refine wpS_bind (wpS_mono (wpS_forRange
    (I := fun x r st' => st' = st /\ r = (none, x) /\ UpF lt p lo x)
    (Q := fun r st' => st' = st /\ ∃ n, r = (none, n) /\ 1 <= n /\ n <= nrem /\ UpF lt p lo n /\ (n = nrem \/ lt (p.getD (lo + n) 0) (p.getD (lo + n - 1) 0) = true)) ?_ ?_ ⟨rfl, rfl, ?_⟩) ?_)
  · rintro x r st' hx1 hx2 ⟨rfl, rfl, u⟩
    refine wpS_bind (ltAt_ok c B S (by omega) (by omega) ?_)
    cases z : lt (p.getD (lo + x) 0) (p.getD (lo + x - 1) 0) with
    | true =>
      dsimp only
      exact wp_yes rfl (wpS_pure ⟨rfl, x, rfl, hx1, by omega, u, .inr z⟩)
    | false =>
      dsimp only
      exact wp_no (by decide) (wpS_pure ⟨rfl, rfl, up_moreF o u hx1 z⟩)
  · rintro r st' ⟨rfl, rfl, u⟩
    rw [show max 1 nrem = nrem by omega] at u ⊢
    exact ⟨rfl, nrem, rfl, h1, Nat.le_refl _, u, .inl rfl⟩
  · intro i j hi hij hj
    have : i = j := by omega
    subst this; exact o.rf _
  rintro r st' ⟨rfl, n, rfl, n1, n2, u, fin⟩
  dsimp only
  by_cases e1 : n = nrem
  · exact wp_yes (by simp [e1]) (wpS_pure (h _ p n S B n1 n2 u fun _ _ => rfl))
  refine wp_no (by simpa using e1) ?_
  have z : lt (p.getD (lo + n) 0) (p.getD (lo + n - 1) 0) = true := fin.resolve_left e1
  have zz := o.as _ _ z
  have K0 : ∀ i, i < lo -> p.getD i 0 = p.getD i 0 := fun _ _ => rfl
  have hl : n < nrem := by omega
  by_cases m : n > 1
  case' pos =>
    refine wp_yes m (wpS_bind (ltAt_ok c B S (by omega) (by omega) ?_))
    by_cases rz : lt (p.getD lo 0) (p.getD (lo + n - 1) 0) = true
    · rw [rz]
      dsimp only
      exact wp_yes rfl (wpS_pure (h _ p n S B n1 n2 u fun _ _ => rfl))
    have rz' : lt (p.getD lo 0) (p.getD (lo + n - 1) 0) = false := by simpa using rz
    rw [rz']
    dsimp only
    refine wp_no (by decide) (wpS_bind (rev_ok S fun st2 S2 => ?_))
    have fl : ∀ i j, lo <= i -> i < lo + n -> lo <= j -> j < lo + n -> lt (p.getD i 0) (p.getD j 0) = false := fun i j i0 i1 j0 j1 =>
      Le.tr o (Le.tr o (u j (lo + n - 1) j0 (by omega) (by omega)) rz') (u lo i (by omega) (by omega) (by omega))
    have B2 := B.rev lo (lo + n)
    have D2 : DownF lt (kas_rev p lo (lo + n)) lo (n + 1) := by
      intro i j hi hij hj
      rw [rev_at B (by omega), rev_at B (by omega)]
      by_cases e : j = lo + n
      · subst e
        rw [if_neg (show ¬ (lo <= lo + n /\ lo + n < lo + n) by omega)]
        by_cases e2 : i = lo + n
        · subst e2
          rw [if_neg (by omega)]
          exact o.rf _
        · rw [if_pos (by omega)]
          exact Le.tr o zz (fl _ _ (by omega) (by omega) (by omega) (by omega))
      · rw [if_pos (by omega), if_pos (by omega)]
        exact fl _ _ (by omega) (by omega) (by omega) (by omega)
    have K2 : ∀ i, i < lo -> (kas_rev p lo (lo + n)).getD i 0 = p.getD i 0 := fun i hi => by rw [rev_at B (by omega), if_neg (by omega)]
    generalize kas_rev p lo (lo + n) = p2 at S2 B2 D2 K2
  case' neg =>
    refine wp_no m ?_
    have B2 := B
    have S2 := S
    have K2 := K0
    have D2 : DownF lt p lo (n + 1) := down_moreF o (fun i j hi hij hj => by
      have : i = j := by omega
      subst this; exact o.rf _) n1 zz
    obtain ⟨st2, est2⟩ : ∃ st2, st2 = st' := ⟨_, rfl⟩
    obtain ⟨p2, ep2⟩ : ∃ p2, p2 = p := ⟨_, rfl⟩
    rw [<- est2] at S2 ⊢
    rw [<- ep2] at S2 B2 D2
    have K2 : ∀ i, i < lo -> p2.getD i 0 = p.getD i 0 := fun i _ => by rw [ep2]
  all_goals
    refine wpS_bind (wpS_lift (wpAny_rule ⟨rfl, ?_⟩))
    refine wpS_bind (wpS_mono (wpS_forRange
      (I := fun x r st3 => ∃ q p3, r = (none, x, q) /\ StP κ it st3 p3 pd /\ PB N p3 /\ DownF lt p3 lo x /\ q + 1 <= x /\ Flat lt p3 (lo + x - (q + 1)) (lo + x) /\ (∀ i, i < lo -> p3.getD i 0 = p.getD i 0))
      (Q := fun r st3 => ∃ x q p3, r = (none, x, q) /\ 1 <= x /\ x <= nrem /\ StP κ it st3 p3 pd /\ PB N p3 /\ DownF lt p3 lo x /\ q + 1 <= x /\ Flat lt p3 (lo + x - (q + 1)) (lo + x) /\ (∀ i, i < lo -> p3.getD i 0 = p.getD i 0)) ?_ ?_ ⟨0, p2, rfl, S2, B2, D2, by omega, ?_, K2⟩) ?_)
    · rintro x r st3 hx1 hx2 ⟨q, p3, rfl, S3, B3, D3, q1, F3, K3⟩
      dsimp only
      refine wpS_bind (ltAt_ok c B3 S3 (by omega) (by omega) ?_)
      by_cases y1 : lt (p3.getD (lo + x) 0) (p3.getD (lo + x - 1) 0) = true
      · rw [y1]
        dsimp only
        refine wp_yes rfl ?_
        have y2 := o.as _ _ y1
        by_cases q0 : q > 0
        · refine wp_yes q0 (wpS_bind (rev_ok S3 fun st4 S4 => wpS_pure ⟨0, _, rfl, S4, B3.rev _ _, ?_, by omega, fun i j i1 i2 j1 j2 => ?_, fun i hi => ?_⟩))
          · have en : (kas_rev p3 (lo + x - (q + 1)) (lo + x)).getD (lo + x) 0 = p3.getD (lo + x) 0 := by rw [rev_at B3 (by omega), if_neg (by omega)]
            have el : (kas_rev p3 (lo + x - (q + 1)) (lo + x)).getD (lo + x - 1) 0 = p3.getD (lo + x - (q + 1)) 0 := by
              rw [rev_at B3 (by omega), if_pos (by omega)]
              congr 1
              omega
            refine down_moreF o (down_flatF B3 (by omega) q1 D3 F3) (by omega) ?_
            rw [en, el]
            exact Le.tr o y2 (F3 _ _ (by omega) (by omega) (by omega) (by omega))
          · have : i = j := by omega
            subst this; exact o.rf _
          · rw [rev_at B3 (by omega), if_neg (by omega)]; exact K3 i hi
        · refine wp_no q0 (wpS_pure ⟨0, p3, rfl, S3, B3, down_moreF o D3 (by omega) y2, by omega, fun i j i1 i2 j1 j2 => ?_, K3⟩)
          have : i = j := by omega
          subst this; exact o.rf _
      · have y1' : lt (p3.getD (lo + x) 0) (p3.getD (lo + x - 1) 0) = false := by simpa using y1
        rw [y1']
        dsimp only
        refine wp_no (by decide) (wpS_bind (ltAt_ok c B3 S3 (by omega) (by omega) ?_))
        by_cases y2 : lt (p3.getD (lo + x - 1) 0) (p3.getD (lo + x) 0) = true
        · rw [y2]
          dsimp only
          exact wp_yes rfl (wpS_pure ⟨x, q, p3, rfl, by omega, by omega, S3, B3, D3, q1, F3, K3⟩)
        · have y2' : lt (p3.getD (lo + x - 1) 0) (p3.getD (lo + x) 0) = false := by simpa using y2
          rw [y2']
          dsimp only
          refine wp_no (by decide) (wpS_pure ⟨q + 1, p3, rfl, S3, B3, down_moreF o D3 (by omega) y2', by omega, fun i j i1 i2 j1 j2 => ?_, K3⟩)
          have fi : ∀ k, lo + (x + 1) - (q + 1 + 1) <= k -> k < lo + (x + 1) -> Le lt (p3.getD k 0) (p3.getD (lo + x - 1) 0) /\ Le lt (p3.getD (lo + x - 1) 0) (p3.getD k 0) := fun k k1 k2 => by
            by_cases ek : k = lo + x
            · rw [ek]; exact ⟨y2', y1'⟩
            · exact ⟨F3 _ _ (by omega) (by omega) (by omega) (by omega), F3 _ _ (by omega) (by omega) (by omega) (by omega)⟩
          exact Le.tr o (fi j j1 j2).1 (fi i i1 i2).2
    · rintro r st3 ⟨q, p3, rfl, S3, B3, D3, q1, F3, K3⟩
      rw [show max (n + 1) nrem = nrem by omega] at D3 q1 F3 ⊢
      exact ⟨nrem, q, p3, rfl, h1, Nat.le_refl _, S3, B3, D3, q1, F3, K3⟩
    · intro i j i1 i2 j1 j2
      have : i = j := by omega
      subst this; exact o.rf _
    rintro r st3 ⟨x, q, p3, rfl, x1, x2, S3, B3, D3, q1, F3, K3⟩
    dsimp only
    by_cases q0 : q > 0
    case' pos =>
      refine wp_yes q0 (wpS_bind (rev_ok S3 fun st4 S4 => ?_))
      have D4 := down_flatF B3 (by omega) q1 D3 F3
      have B4 := B3.rev (lo + x - (q + 1)) (lo + x)
      have K4 : ∀ i, i < lo -> (kas_rev p3 (lo + x - (q + 1)) (lo + x)).getD i 0 = p.getD i 0 := fun i hi => by rw [rev_at B3 (by omega), if_neg (by omega)]; exact K3 i hi
      generalize kas_rev p3 (lo + x - (q + 1)) (lo + x) = p4 at S4 D4 B4 K4
    case' neg =>
      refine wp_no q0 ?_
      have D4 := D3
      have B4 := B3
      have K4 := K3
      have S4 := S3
      generalize p3 = p4 at S4 D4 B4 K4
      generalize st3 = st4 at S4 ⊢
    all_goals
      refine wpS_bind (rev_ok S4 fun st5 S5 => ?_)
      have U5 := down_revF B4 (by omega) D4
      have B5 := B4.rev lo (lo + x)
      have K5 : ∀ i, i < lo -> (kas_rev p4 lo (lo + x)).getD i 0 = p.getD i 0 := fun i hi => by rw [rev_at B4 (by omega), if_neg (by omega)]; exact K4 i hi
      generalize kas_rev p4 lo (lo + x) = p5 at S5 U5 B5 K5
      refine wpS_bind (wpS_mono (wpS_forRange
        (I := fun y r st' => st' = st5 /\ r = (none, y) /\ UpF lt p5 lo y)
        (Q := fun r st' => st' = st5 /\ ∃ n, r = (none, n) /\ 1 <= n /\ n <= nrem /\ UpF lt p5 lo n) ?_ ?_ ⟨rfl, rfl, U5⟩) ?_)
      · rintro y r st' hy1 hy2 ⟨rfl, rfl, u⟩
        refine wpS_bind (ltAt_ok c B5 S5 (by omega) (by omega) ?_)
        cases z : lt (p5.getD (lo + y) 0) (p5.getD (lo + y - 1) 0) with
        | true =>
          dsimp only
          exact wp_yes rfl (wpS_pure ⟨rfl, y, rfl, by omega, by omega, u⟩)
        | false =>
          dsimp only
          exact wp_no (by decide) (wpS_pure ⟨rfl, rfl, up_moreF o u (by omega) z⟩)
      · rintro r st' ⟨rfl, rfl, u⟩
        rw [show max x nrem = nrem by omega] at u ⊢
        exact ⟨rfl, nrem, rfl, h1, Nat.le_refl _, u⟩
      · rintro r st' ⟨rfl, y, rfl, y1, y2, u⟩
        dsimp only
        exact wpS_pure (h _ p5 y S5 B5 y1 y2 u K5)
end
end L2
namespace L2
open PySem PySem.W PyProof.Rows
section
variable {prog : Program} {w : World} {A : Around} {E : Value -> Shared -> Prop} {s : Shared} {κ : SortKind} {it : Array Keyed} {lt : Nat -> Nat -> Bool} {N : Nat}
inductive Rn (lt : Nat -> Nat -> Bool) (p : Array Nat) : Nat -> List (Nat × Nat × Nat) -> Nat -> Prop
  | nil (a : Nat) : Rn lt p a [] a
  | cons {a n pw b : Nat} {ps : List (Nat × Nat × Nat)} (h0 : 0 < n) (u : UpF lt p a n) (t : Rn lt p (a + n) ps b) : Rn lt p a ((a, n, pw) :: ps) b
theorem Rn.le {p : Array Nat} {a b : Nat} {ps : List (Nat × Nat × Nat)} (h : Rn lt p a ps b) : a + ps.length <= b := by
  induction h with
  | nil => exact Nat.le_refl _
  | cons h0 _ _ ih => simp at ih ⊢; omega
theorem Rn.app {p : Array Nat} {a b c : Nat} {ps qs : List (Nat × Nat × Nat)} (h : Rn lt p a ps b) (h2 : Rn lt p b qs c) : Rn lt p a (ps ++ qs) c := by
  induction h with
  | nil => exact h2
  | cons h0 u _ ih => exact .cons h0 u (ih h2)
theorem Rn.cut {p : Array Nat} {c : Nat} {qs : List (Nat × Nat × Nat)} : ∀ {ps : List (Nat × Nat × Nat)} {a : Nat}, Rn lt p a (ps ++ qs) c -> ∃ b, Rn lt p a ps b /\ Rn lt p b qs c
  | [], a, h => ⟨a, .nil a, h⟩
  | x :: ps, a, h => by
    cases h with
    | cons h0 u t =>
      obtain ⟨b, h1, h2⟩ := Rn.cut t
      exact ⟨b, .cons h0 u h1, h2⟩
theorem UpF.same {p p' : Array Nat} {a n : Nat} (h : UpF lt p a n) (e : ∀ i, a <= i -> i < a + n -> p'.getD i 0 = p.getD i 0) : UpF lt p' a n := fun i j hi hij hj => by
  rw [e i hi (by omega), e j (by omega) hj]; exact h i j hi hij hj
theorem Rn.same {p p' : Array Nat} {a b : Nat} {ps : List (Nat × Nat × Nat)} (h : Rn lt p a ps b) (e : ∀ i, a <= i -> i < b -> p'.getD i 0 = p.getD i 0) : Rn lt p' a ps b := by
  induction h with
  | nil => exact .nil _
  | cons h0 u t ih =>
    have := t.le
    exact .cons h0 (u.same fun i h1 h2 => e i h1 (by omega)) (ih fun i h1 h2 => e i (by omega) h2)
theorem Rn.mod {p : Array Nat} {b : Nat} {f : Nat × Nat × Nat -> Nat × Nat × Nat} (hf : ∀ x, (f x).1 = x.1 /\ (f x).2.1 = x.2.1) : ∀ {ps : List (Nat × Nat × Nat)} {a : Nat} (k : Nat), Rn lt p a ps b -> Rn lt p a (ps.modify k f) b
  | [], a, k, h => by cases k <;> exact h
  | x :: ps, a, 0, h => by
    cases h with
    | cons h0 u t =>
      rename_i n pw
      obtain ⟨e1, e2⟩ := hf (a, n, pw)
      have e : f (a, n, pw) = (a, n, (f (a, n, pw)).2.2) := Prod.ext e1 (Prod.ext e2 rfl)
      show Rn lt p a (f (a, n, pw) :: ps) b
      rw [e]
      exact .cons h0 u t
  | x :: ps, a, k + 1, h => by
    cases h with
    | cons h0 u t => exact .cons h0 u (Rn.mod hf k t)
theorem Rn.at {p : Array Nat} {a b i : Nat} {ps : List (Nat × Nat × Nat)} (h : Rn lt p a ps b) (hi : i + 1 < ps.length) : ∃ ps1 sa na w1 nb w2 ps2, ps = ps1 ++ (sa, na, w1) :: (sa + na, nb, w2) :: ps2 /\ ps1.length = i := by
  have e : ps = ps.take i ++ ps.drop i := (List.take_append_drop _ _).symm
  rw [e] at h
  obtain ⟨c, _, h2⟩ := Rn.cut h
  rw [List.drop_eq_getElem_cons (show i < ps.length by omega), List.drop_eq_getElem_cons hi] at h2 e
  generalize hx : ps[i] = x at h2 e
  generalize hy : ps[i + 1] = y at h2 e
  cases h2 with
  | cons h0 u t =>
    cases t with
    | cons h0' u' t' => exact ⟨ps.take i, _, _, _, _, _, _, e, by rw [List.length_take]; omega⟩
theorem getD_toList (p : Array Nat) (i : Nat) : p.getD i 0 = p.toList.getD i 0 := by rw [Array.getD_eq_getD_getElem?, List.getD_eq_getElem?_getD, Array.getElem?_toList]
theorem up_slice {p : Array Nat} {a n : Nat} (u : UpF lt p a n) (h : a + n <= p.size) : ((p.toList.drop a).take n).Pairwise (Le lt) := by
  rw [List.pairwise_iff_getElem]
  intro i j hi hj hij
  rw [List.length_take, List.length_drop] at hi hj
  rw [List.getElem_take, List.getElem_take, List.getElem_drop, List.getElem_drop]
  have g : ∀ k (hk : k < p.toList.length), p.toList[k] = p.getD k 0 := fun k hk => by rw [getD_toList, List.getD_eq_getElem?_getD, List.getElem?_eq_getElem hk]; rfl
  rw [g, g]
  exact u _ _ (by omega) (by omega) (by omega)
theorem mergeAt_runs {i lo sa na w1 sb nb w2 : Nat} {ps1 ps2 : List (Nat × Nat × Nat)} {p : Array Nat} {pd : Array (Nat × Nat × Nat)} {st : SortSt} {Q : Bool -> SortSt -> Prop} (c : Cmp prog w A κ it lt N s) (o : Ord lt) (B : PB N p) (S : StP κ it st p pd) (hpd : pd.toList = ps1 ++ (sa, na, w1) :: (sb, nb, w2) :: ps2) (hi : ps1.length = i)
    (R : Rn lt p 0 pd.toList lo) (hlo : lo <= N) (h : ∀ st' p' pd', StP κ it st' p' pd' -> PB N p' -> pd'.toList = ps1 ++ (sa, na + nb, w1) :: ps2 -> Rn lt p' 0 pd'.toList lo -> (∀ j, lo <= j -> p'.getD j 0 = p.getD j 0) -> Q true st') : wpS (model prog w) A E s (mergeAt' i) Q st := by
  rw [hpd] at R
  obtain ⟨b, R1, R2⟩ := Rn.cut R
  cases R2 with
  | cons a0 ua t =>
    cases t with
    | cons b0 ub R3 =>
      have l3 := R3.le
      have ps : p.size = N := B.size
      have pl : p.toList.length = N := by rw [Array.length_toList, ps]
      generalize hP : p.toList.take sa = P
      generalize hX : (p.toList.drop sa).take na = X
      generalize hY : (p.toList.drop (sa + na)).take nb = Y
      generalize hZ : p.toList.drop (sa + na + nb) = Z
      have lP : P.length = sa := by rw [<- hP, List.length_take]; omega
      have lX : X.length = na := by rw [<- hX, List.length_take, List.length_drop]; omega
      have lY : Y.length = nb := by rw [<- hY, List.length_take, List.length_drop]; omega
      have eL : p.toList = P ++ X ++ Y ++ Z := by
        rw [<- hP, <- hX, <- hY, <- hZ, List.append_assoc, List.append_assoc]
        conv => lhs; rw [<- List.take_append_drop sa p.toList]
        congr 1
        conv => lhs; rw [<- List.take_append_drop na (p.toList.drop sa)]
        congr 1
        rw [List.drop_drop]
        conv => lhs; rw [<- List.take_append_drop nb (p.toList.drop (sa + na))]
        congr 1
        rw [List.drop_drop]
      have sX : X.Pairwise (Le lt) := by rw [<- hX]; exact up_slice ua (by omega)
      have sY : Y.Pairwise (Le lt) := by rw [<- hY]; exact up_slice ub (by omega)
      have S' : StAt κ it st (P ++ X ++ Y ++ Z) pd := ⟨S.k, by rw [S.a, <- eL]; apply Array.toList_inj.mp; rw [Array.toList_map], S.p, S.f⟩
      have lN : ∀ x ∈ P ++ X ++ Y ++ Z, x < N := fun x hx => by
        rw [<- eL] at hx
        have := B.perm.mem_iff.mp (by simpa using hx)
        simpa using this
      have p1 : pd[i]? = some (P.length, X.length, w1) := by rw [<- Array.getElem?_toList, hpd, <- hi, lP, lX]; simp
      have p2 : pd[i + 1]? = some (P.length + X.length, Y.length, w2) := by rw [<- Array.getElem?_toList, hpd, <- hi, lP, lX, lY]; simp
      refine mergeAt_ok c o S' lN p1 p2 (by omega) (by omega) sX sY fun st' W SW pW sW => ?_
      have lW : W.length = na + nb := by rw [pW.length_eq, List.length_append, lX, lY]
      have pW' : (P ++ W ++ Z).Perm p.toList := by
        rw [eL, List.append_assoc (P ++ X) Y Z, List.append_assoc P X, List.append_assoc P W]
        refine List.Perm.append_left _ ?_
        rw [<- List.append_assoc]
        exact List.Perm.append_right _ pW
      have gD : ∀ j, ((P ++ W ++ Z).toArray).getD j 0 = (P ++ W ++ Z).getD j 0 := fun j => by rw [getD_toList]
      have keep : ∀ j, j < sa \/ sa + na + nb <= j -> ((P ++ W ++ Z).toArray).getD j 0 = p.getD j 0 := fun j hj => by
        rw [gD, getD_toList, eL, List.getD_eq_getElem?_getD, List.getD_eq_getElem?_getD]
        congr 1
        rcases hj with hj | hj
        · rw [List.append_assoc, List.append_assoc, List.append_assoc, List.getElem?_append_left (by omega), List.getElem?_append_left (by omega)]
        · rw [List.getElem?_append_right (by rw [List.length_append]; omega), List.getElem?_append_right (by rw [List.length_append, List.length_append]; omega)]
          congr 1
          rw [List.length_append, List.length_append, List.length_append]
          omega
      refine h st' (P ++ W ++ Z).toArray _ ⟨SW.k, by rw [SW.a]; simp, SW.p, SW.f⟩ ⟨?_⟩ ?_ ?_ (fun j hj => keep j (.inr (by omega)))
      · exact Array.Perm.trans (by rw [Array.perm_iff_toList_perm]; exact pW') B.perm
      · rw [Array.toList_eraseIdxIfInBounds, Array.toList_setIfInBounds, hpd, <- hi, lP, lX, lY]
        simp [List.eraseIdx_append_of_length_le]
      · rw [Array.toList_eraseIdxIfInBounds, Array.toList_setIfInBounds, hpd, <- hi, lP, lX, lY]
        have e : ((ps1 ++ (sa, na, w1) :: (sa + na, nb, w2) :: ps2).set ps1.length (sa, na + nb, w1)).eraseIdx (ps1.length + 1) = ps1 ++ (sa, na + nb, w1) :: ps2 := by
          simp [List.eraseIdx_append_of_length_le]
        rw [e]
        refine (R1.same fun j _ h2 => keep j (.inl h2)).app (.cons (by omega) ?_ ?_)
        · intro i j hi' hij hj
          rw [gD, gD]
          have gW : ∀ k, sa <= k -> k < sa + (na + nb) -> (P ++ W ++ Z).getD k 0 = W.getD (k - sa) 0 := fun k k1 k2 => by
            rw [List.getD_eq_getElem?_getD, List.getD_eq_getElem?_getD, List.append_assoc, List.getElem?_append_right (by omega), List.getElem?_append_left (by omega), lP]
          rw [gW i hi' (by omega), gW j (by omega) hj]
          by_cases e : i = j
          · subst e; exact o.rf _
          · have gE : ∀ k (hk : k < W.length), W.getD k 0 = W[k] := fun k hk => by rw [List.getD_eq_getElem?_getD, List.getElem?_eq_getElem hk]; rfl
            rw [gE (i - sa) (by omega), gE (j - sa) (by omega)]
            exact List.pairwise_iff_getElem.mp sW _ _ (by omega) (by omega) (by omega)
        · rw [<- Nat.add_assoc]
          exact R3.same fun j h1 _ => keep j (.inr h1)
end
end L2
namespace L2
open PySem PySem.W PyProof.Rows
section
variable {prog : Program} {w : World} {A : Around} {E : Value -> Shared -> Prop} {s : Shared} {κ : SortKind} {it : Array Keyed} {lt : Nat -> Nat -> Bool} {N : Nat}
theorem mergeAt_any {i lo : Nat} {p : Array Nat} {pd : Array (Nat × Nat × Nat)} {st : SortSt} {Q : Bool -> SortSt -> Prop} (c : Cmp prog w A κ it lt N s) (o : Ord lt) (B : PB N p) (S : StP κ it st p pd) (R : Rn lt p 0 pd.toList lo) (hlo : lo <= N) (hi : i + 1 < pd.size)
    (h : ∀ st' p' pd', StP κ it st' p' pd' -> PB N p' -> pd'.size = pd.size - 1 -> Rn lt p' 0 pd'.toList lo -> (∀ j, lo <= j -> p'.getD j 0 = p.getD j 0) -> Q true st') : wpS (model prog w) A E s (mergeAt' i) Q st := by
  obtain ⟨ps1, sa, na, w1, nb, w2, ps2, e1, e2⟩ := R.at (i := i) (by rw [Array.length_toList]; exact hi)
  refine mergeAt_runs c o B S e1 e2 R hlo fun st3 p3 pd3 S3 B3 e3 R3 k3 => h st3 p3 pd3 S3 B3 ?_ R3 k3
  have a1 : pd3.toList.length = pd3.size := Array.length_toList
  have a2 : pd.toList.length = pd.size := Array.length_toList
  rw [e3] at a1
  rw [e1] at a2
  simp at a1 a2
  omega
theorem sortRuns_ok {p : Array Nat} {st : SortSt} {Q : Unit -> SortSt -> Prop} (c : Cmp prog w A κ it lt N s) (o : Ord lt) (B : PB N p) (S : StP κ it st p #[]) (h2 : 2 <= N)
    (h : ∀ st' p' pd, StP κ it st' p' pd -> PB N p' -> UpF lt p' 0 N -> Q () st') : wpS (model prog w) A E s sortRuns' Q st := by
  refine wpS_bind (wpS_get ?_)
  have hs : (arrOf st).size = N := by rw [S.a, Array.size_map, B.size]
  dsimp only
  rw [hs]
  generalize minRun' N N 0 = mr
  refine wpS_bind (wpS_mono (wpS_forRange
    (I := fun x r st' => ∃ lo p' pd, r = (none, lo) /\ StP κ it st' p' pd /\ PB N p' /\ Rn lt p' 0 pd.toList lo /\ lo <= N /\ x <= lo)
    (Q := fun r st' => ∃ p' pd, r = (none, N) /\ StP κ it st' p' pd /\ PB N p' /\ Rn lt p' 0 pd.toList N) ?_ ?_ ⟨0, p, #[], rfl, S, B, .nil 0, by omega, by omega⟩) ?_)
  rotate_left
  · rintro r st' ⟨lo, p', pd, rfl, S', B', R', l1, l2⟩
    have : lo = N := by omega
    subst this
    exact ⟨p', pd, rfl, S', B', R'⟩
  · rintro r st' ⟨p', pd, rfl, S', B', R'⟩
    dsimp only
    refine wpS_bind (wpS_mono (wpS_forRange
      (I := fun x r st' => ∃ p' pd, r = (none, ()) /\ StP κ it st' p' pd /\ PB N p' /\ Rn lt p' 0 pd.toList N /\ pd.size + x <= N)
      (Q := fun r st' => ∃ p' pd, r = (none, ()) /\ StP κ it st' p' pd /\ PB N p' /\ Rn lt p' 0 pd.toList N /\ pd.size <= 1) ?_ ?_ ⟨p', pd, rfl, S', B', R', ?_⟩) ?_)
    · rintro x r st' _ hx ⟨p', pd, rfl, S', B', R', l1⟩
      rcases st' with ⟨kd, ar, pn, gl, fl⟩
      have ep : pn = pd := S'.p
      subst ep
      refine wpS_bind (wpS_get ?_)
      by_cases e : pn.size <= 1
      · exact wp_yes e (wpS_pure ⟨p', pn, rfl, S', B', R', e⟩)
      refine wp_no e ?_
      refine wpS_bind (mergeAt_any c o B' S' R' (Nat.le_refl _) ?_ fun st3 p3 pd3 S3 B3 l3 R3 _ => ?_)
      · dsimp only
        repeat' split
        all_goals omega
      · refine wp_no (by decide) (wpS_pure ⟨p3, pd3, rfl, S3, B3, R3, by omega⟩)
    · rintro r st' ⟨p', pd, rfl, S', B', R', l1⟩
      exact ⟨p', pd, rfl, S', B', R', by omega⟩
    · have := R'.le
      rw [Array.length_toList] at this
      omega
    · rintro r st' ⟨p', pd, rfl, S', B', R', l1⟩
      dsimp only
      refine wpS_pure (h _ p' pd S' B' ?_)
      generalize hl : pd.toList = ps at R'
      cases R' with
      | nil => omega
      | cons h0 u t =>
        cases t with
        | nil => rw [Nat.zero_add]; exact u
        | cons h0' u' t' =>
          have : pd.toList.length <= 1 := by rw [Array.length_toList]; exact l1
          rw [hl] at this
          simp at this
  rintro x r st' _ hx ⟨lo, p', pd, rfl, S', B', R', l1, l2⟩
  dsimp only
  by_cases e : lo >= N
  · have : lo = N := by omega
    subst this
    exact wp_yes e (wpS_pure ⟨p', pd, rfl, S', B', R'⟩)
  refine wp_no e (wpS_bind (count_ok c o B' S' (by omega) (by omega) fun st2 p2 n S2 B2 n1 n2 U2 K2 => ?_))
  dsimp only
  refine wp_ite (fun hm => ?_) (fun hm => ?_)
  case' refine_1 =>
    refine wpS_bind (wpS_lift (wpAny_rule ⟨rfl, ?_⟩))
    refine wpS_bind (binary_ok c o B2 S2 (by omega) (by omega) (by omega) U2 fun st3 p3 S3 B3 U3 K3' => ?_)
    refine wp_no (by decide) ?_
    have K3 : ∀ i, i < lo -> p3.getD i 0 = p'.getD i 0 := fun i hi => (K3' i hi).trans (K2 i hi)
    have n3 : 0 < min (N - lo) (minRun' N N 0) := by
      have : n < minRun' N N 0 := hm
      omega
    have n4 : lo + min (N - lo) (minRun' N N 0) <= N := by omega
  case' refine_2 =>
    have S3 := S2
    have B3 := B2
    have U3 := U2
    have K3 := K2
    generalize p2 = p3 at S3 B3 U3 K3
    generalize st2 = st3 at S3 ⊢
    have n3 : 0 < n := n1
    have n4 : lo + n <= N := by omega
  all_goals
    have R3 := R'.same (p' := p3) fun i _ hi => K3 i hi
    refine wpS_bind (wpS_get ?_)
    rw [show (pendingOf st3).back? = pd.back? by rw [S3.p]]
    have push : ∀ (st4 : SortSt) (p4 : Array Nat) (pd4 : Array (Nat × Nat × Nat)) (k : Nat), 0 < k -> lo + k <= N -> UpF lt p4 lo k -> StP κ it st4 p4 pd4 -> PB N p4 -> Rn lt p4 0 pd4.toList lo ->
        ∃ p' pd, StP κ it (setPending st4 ((pendingOf st4).push (lo, k, 0))) p' pd /\ PB N p' /\ Rn lt p' 0 pd.toList (lo + k) /\ lo + k <= N /\ x + 1 <= lo + k := fun st4 p4 pd4 k k1 k2 u4 S4 B4 R4 =>
      ⟨p4, pd4.push (lo, k, 0), ⟨S4.k, S4.a, by show (pendingOf st4).push _ = _; rw [S4.p], S4.f⟩, B4, by rw [Array.toList_push]; exact R4.app (.cons k1 u4 (.nil _)), k2, by omega⟩
    cases hb : pd.back? with
    | none =>
      dsimp only
      obtain ⟨p9, pd9, q1, q2, q3, q4, q5⟩ := push st3 p3 pd _ n3 n4 U3 S3 B3 R3
      exact wpS_bind (wpS_modify (wpS_pure ⟨_, p9, pd9, rfl, q1, q2, q3, q4, q5⟩))
    | some b =>
      obtain ⟨s1, m1, w1⟩ := b
      dsimp only
      refine wpS_bind (wpS_mono (wpS_forRange
        (I := fun _ r st' => ∃ p4 pd4, r = (none, ()) /\ StP κ it st' p4 pd4 /\ PB N p4 /\ Rn lt p4 0 pd4.toList lo /\ ∀ j, lo <= j -> p4.getD j 0 = p3.getD j 0)
        (Q := fun r st' => ∃ p4 pd4, r = (none, ()) /\ StP κ it st' p4 pd4 /\ PB N p4 /\ Rn lt p4 0 pd4.toList lo /\ ∀ j, lo <= j -> p4.getD j 0 = p3.getD j 0) ?_ (fun _ _ z => z) ⟨p3, pd, rfl, S3, B3, R3, fun _ _ => rfl⟩) ?_)
      · rintro y r st4 _ hy ⟨p4, pd4, rfl, S4, B4, R4, K4⟩
        rcases st4 with ⟨kd, ar, pn, gl, fl⟩
        have ep : pn = pd4 := S4.p
        subst ep
        refine wpS_bind (wpS_get ?_)
        dsimp only
        by_cases e5 : pn.size > 1
        · have e6 : pn[pn.size - 2]? = some pn[pn.size - 2] := Array.getElem?_eq_getElem (by omega)
          rw [if_pos e5, e6]
          generalize pn[pn.size - 2] = b6
          obtain ⟨b61, b62, b63⟩ := b6
          dsimp only
          refine wp_ite (fun _ => wpS_pure ⟨p4, pn, rfl, S4, B4, R4, K4⟩) (fun _ => ?_)
          refine wpS_bind (mergeAt_any c o B4 S4 R4 l1 (by omega) fun st5 p5 pd5 S5 B5 l5 R5 K5 => ?_)
          exact wp_no (by decide) (wpS_pure ⟨p5, pd5, rfl, S5, B5, R5, fun j hj => (K5 j hj).trans (K4 j hj)⟩)
        · rw [if_neg e5]
          exact wpS_pure ⟨p4, pn, rfl, S4, B4, R4, K4⟩
      · rintro r st4 ⟨p4, pd4, rfl, S4, B4, R4, K4⟩
        rcases st4 with ⟨kd, ar, pn, gl, fl⟩
        have ep : pn = pd4 := S4.p
        subst ep
        dsimp only
        refine wpS_bind (wpS_modify (wpS_bind (wpS_modify (wpS_pure ?_))))
        have U4 := U3.same (p' := p4) fun i h1 _ => K4 i h1
        refine ⟨_, p4, _, rfl, ⟨S4.k, S4.a, rfl, S4.f⟩, B4, ?_, n4, by omega⟩
        dsimp only
        rw [Array.toList_push, Array.toList_modify]
        refine Rn.app (Rn.mod ?_ _ R4) (.cons n3 U4 (.nil _))
        intro z
        exact ⟨rfl, rfl⟩
end
end L2
namespace L2
open PySem PySem.W PyProof.Rows
section
variable {prog : Program} {w : World} {A : Around} {E : Value -> Shared -> Prop} {s : Shared}
theorem sort_bodyG {a : Addr} {vs : List Value} {n : Nat} {lt : Nat -> Nat -> Bool} {P : PySem.Fin -> Shared -> Prop} (ho : s.heap.get? a = some (seqObj "list" vs.toArray n)) (o : Ord lt) (hbig : vs.length <= 1000000)
    (ask : 2 <= vs.length -> ∀ h', (∀ b u, b ≠ a -> s.heap.get? b = some u -> h'.get? b = some u) -> ∃ κ : SortKind, (∀ (E : Value -> Shared -> Prop) (Q : SortKind -> Shared -> Prop), Q κ { s with heap := h' } -> wpAny (model prog w) A (keyKind' vs.toArray) Q E { s with heap := h' }) /\
      ∀ (i j : Nat) (C : Bool -> Shared -> Prop), i < vs.length -> j < vs.length -> C (lt i j) { s with heap := h' } -> wpAny (model prog w) A (keyLt' κ (vs.getD i Value.none) (vs.getD j Value.none)) C (fun _ _ => False) { s with heap := h' })
    (q : ∀ p, PB vs.length p -> Up lt p vs.length -> P (.done (.ret .none)) { s with heap := sortedHeap s.heap a vs (outOf vs p).toArray }) : wpAny (model prog w) A (Builtin.«list.sort» ⟨[.ref a], []⟩) P E s := by
  rw [list_sort_plain]
  have la : a < s.heap.objs.size := Heap.lt_size ho
  have zs : vs.length <= sizeLine := by rw [sizeLine_eq]; omega
  refine wpAny_bind (listItems_at ho rfl (wpAny_bind (listUpdate_at ho rfl ?_ (by rw [List.size_toArray]; exact zs) (Nat.zero_le _))))
  obtain ⟨e1, o1⟩ : ∃ e1, (s.heap.update a (Obj.mapSeq fun _ => (#[] : Array Value))).get? a = some (seqObj "list" #[] e1) := ⟨_, get?_update_seq ho fun _ => #[]⟩
  refine wpAny_bind (seqEpoch_at o1 rfl (wpAny_bind (wpAny_newTuple (wpAny_bind (wpAny_newList (wpAny_holding ?_) (Nat.zero_le _))) (by show vs.length <= _; exact zs))))
  have sb := Heap.SameBut.update s.heap a (Obj.mapSeq fun _ => (#[] : Array Value))
  have keep : ∀ b u, b ≠ a -> s.heap.get? b = some u -> (((s.heap.update a (Obj.mapSeq fun _ => #[])).push (seqObj "tuple" vs.toArray 0)).push (seqObj "list" #[] 0)).get? b = some u := fun b u hb z =>
    Heap.get?_push_of_some _ (Heap.get?_push_of_some _ ((sb.2 b hb).trans z))
  have o6 : (((s.heap.update a (Obj.mapSeq fun _ => #[])).push (seqObj "tuple" vs.toArray 0)).push (seqObj "list" #[] 0)).get? a = some (seqObj "list" #[] e1) := Heap.get?_push_of_some _ (Heap.get?_push_of_some _ o1)
  show wpAny (model prog w) A _ P E { s with heap := ((s.heap.update a (Obj.mapSeq fun _ => (#[] : Array Value))).push (seqObj "tuple" vs.toArray 0)).push (seqObj "list" #[] 0) }
  dsimp only
  have fin : ∀ (st : SortSt) (out : List Value), (arrOf st).map (·.2) = out.toArray -> out.length = vs.length -> failedOf st = none -> P (.done (.ret .none)) { s with heap := sortedHeap s.heap a vs out.toArray } ->
      wpAny (model prog w) A (do
        let touched := (<- seqEpoch a) != e1
        Builtin.List.listUpdate (.ref a) fun _ => (arrOf st).map (·.2)
        if let some e := failedOf st then rule "list.sort.comparison-raised"; throw e
        if touched then rule "list.sort.modified"; raiseError "ValueError" "list modified during sort"
        ret .none) P E { s with heap := ((s.heap.update a (Obj.mapSeq fun _ => (#[] : Array Value))).push (seqObj "tuple" vs.toArray 0)).push (seqObj "list" #[] 0) } := by
    intro st out eo el ef qq
    refine wpAny_bind (seqEpoch_at o6 rfl ?_)
    rw [eo]
    refine wpAny_bind (listUpdate_at o6 rfl ?_ (Nat.zero_le _) (by show out.toArray.size <= _; rw [List.size_toArray, el, sizeLine_eq]; omega))
    rw [ef]
    simp only [bne_self_eq_false, Bool.false_eq_true, if_false]
    exact wpAny_pure qq
  by_cases two : vs.length >= 2
  · have hn2 : ¬ vs.toArray.size < 2 := by rw [List.size_toArray]; omega
    rw [if_neg hn2, if_neg hn2]
    obtain ⟨κ, kk, cc⟩ := ask two _ keep
    have hit : ∀ i, i < vs.length -> (kas_item (vs.toArray.zip vs.toArray) i).1 = vs.getD i Value.none := fun i hi => by simp [kas_item, Array.getD, List.getD, hi]
    refine wpAny_bind (kk _ _ ?_)
    have C : Cmp prog w A κ (vs.toArray.zip vs.toArray) lt vs.length { s with heap := ((s.heap.update a (Obj.mapSeq fun _ => (#[] : Array Value))).push (seqObj "tuple" vs.toArray 0)).push (seqObj "list" #[] 0) } := fun i j C hi hj hC => by
      unfold kas_cmp
      rw [hit i hi, hit j hj]
      exact cc i j C hi hj hC
    have S0 : StP κ (vs.toArray.zip vs.toArray) (SortSt.mk' κ (vs.toArray.zip vs.toArray) #[] 7 none) (List.range vs.length).toArray #[] := by
      refine ⟨rfl, ?_, rfl, rfl⟩
      show vs.toArray.zip vs.toArray = _
      apply Array.ext (by simp)
      intro i h1 h2
      simp at h1
      simp [kas_item, Array.getD, h1]
    refine wpAny_bind (wpAny_mono (sortRuns_ok (E := E) (Q := fun _ st' => ∃ p, PB vs.length p /\ Up lt p vs.length /\ arrOf st' = p.map (kas_item (vs.toArray.zip vs.toArray)) /\ failedOf st' = none) C o ⟨Array.Perm.refl _⟩ S0 two fun st' p' pd S' B' U' => ⟨p', B', fun i j hij hj => U' i j (Nat.zero_le _) hij (by omega), S'.a, S'.f⟩) ?_ fun _ _ x => x)
    rintro ⟨⟨⟩, st'⟩ s' ⟨rfl, p, pb, up, ea, ef⟩
    exact fin st' (outOf vs p) (kat_snds rfl ea) (by unfold outOf; rw [List.length_map, Array.length_toList, pb.size]) ef (q p pb up)
  · have hn2 : vs.toArray.size < 2 := by rw [List.size_toArray]; omega
    rw [if_pos hn2, if_pos hn2]
    refine wpAny_bind (wpAny_pure ?_)
    rw [StateT.run_pure]
    refine wpAny_bind (wpAny_pure ?_)
    refine fin (SortSt.mk' general' (vs.toArray.zip vs.toArray) #[] 7 none) (outOf vs (List.range vs.length).toArray) ?_ (by rw [sort_one two]) rfl (q _ ⟨Array.Perm.refl _⟩ ?_)
    · rw [sort_one two]; exact zip_snd vs
    · intro i j hij hj
      have : i = j := by omega
      subst this; exact o.rf _
theorem sorted_genG {l : Addr} {vs : List Value} {lt : Nat -> Nat -> Bool} {Q : Value -> Shared -> Prop} (hl : s.heap.IsList l vs.toArray) (o : Ord lt) (hbig : vs.length <= 1000000) (ask : Asks prog w s lt vs)
    (q : ∀ p, PB vs.length p -> Up lt p vs.length -> Q (.ref (s.heap.objs.size + 1)) { s with heap := sortedAll s.heap vs (outOf vs p).toArray }) : wpAny (model prog w) A (call (.builtin "sorted") [.ref l]) Q E s := by
  refine Calls.call_function_entry kind_sorted plain_sorted entry_sorted (args_sorted1 _) ?_
  unfold Builtin.«sorted»
  refine wpAny_bind (m := checkCount "sorted" 1 1 _) (wpAny_pure (wpAny_bind (collect_list hl (wpAny_bind (wpAny_newList ?_ (by rw [sizeLine_eq]; omega))) (by rw [sizeLine_eq]; omega))))
  have z1 : ((s.heap.push (seqObj "list" #[] 0)).update s.heap.objs.size (Obj.mapSeq (· ++ vs.toArray))).objs.size = s.heap.objs.size + 1 := by rw [Heap.size_update, size_push']
  have oL : (((s.heap.push (seqObj "list" #[] 0)).update s.heap.objs.size (Obj.mapSeq (· ++ vs.toArray))).push (seqObj "list" vs.toArray 0)).get? (s.heap.objs.size + 1) = some (seqObj "list" vs.toArray 0) := by
    rw [<- z1]; exact Heap.get?_push_size _ rfl
  have keep : ∀ b u, s.heap.get? b = some u -> (((s.heap.push (seqObj "list" #[] 0)).update s.heap.objs.size (Obj.mapSeq (· ++ vs.toArray))).push (seqObj "list" vs.toArray 0)).get? b = some u := fun b u z => by
    have lb : b < s.heap.objs.size := Heap.lt_size z
    exact Heap.get?_push_of_some _ (by rw [Heap.get?_update_ne _ _ _ _ (Nat.ne_of_lt lb)]; exact Heap.get?_push_of_some _ z)
  show wpAny _ _ _ _ _ { s with heap := ((s.heap.push (seqObj "list" #[] 0)).update s.heap.objs.size (Obj.mapSeq (· ++ vs.toArray))).push (seqObj "list" vs.toArray 0) }
  rw [z1]
  refine wpAny_bind (wpAny_holding (wpAny_call_entry slot_list_sort ⟨_, oL, rfl⟩ entry_list_sort (sort_bodyG oL o hbig (fun two h' k => ask _ h' (fun b u z => k b u (fun e => ?_) (keep b u z)) two) fun p pb up => ⟨_, rfl, ?_⟩) (args_list_sort _)))
  · exact absurd (Heap.lt_size z) (by rw [e]; exact Nat.not_lt.mpr (Nat.le_succ _))
  · exact wpAny_pure ⟨_, rfl, q p pb up⟩
end
end L2
namespace L2
open PySem PySem.W PyProof.Rows
section
variable {X : Cx}
def rSortedG (K : PySem.W.Frag) : List V -> Hp -> VK -> Prop := fun xs H Q => ∃ (p : Addr) (rs : List V) (kss : List (List Int)), xs = [.ref p] /\ SqL K H p rs /\ rs.length <= 1000000 /\ Paired (IntsAt H) rs kss /\ (∀ ks ∈ kss, ks ≠ []) /\
  ∀ (l : Addr) (rs' : List V) (kss' : List (List Int)), Paired (IntsAt H) rs' kss' -> kss'.Perm kss -> kss'.Pairwise LexLe -> H l = none -> Q (.ref l) (upd H l (.lst rs'))
theorem call_sortedG : CallR X (.builtin "sorted") (rSortedG X.K) := by
  intro pins s σ H xs us Q I r h
  obtain ⟨p, rs, kss, rfl, hp, hn, hk, hne, q⟩ := h
  obtain ⟨u, rfl, ru⟩ := Vals.one r
  cases (show u = Value.ref p from ru)
  obtain ⟨its, r1, t1, _⟩ := I.list hp
  have hl : its.length = rs.length := r1.length.symm
  have kl : rs.length = kss.length := Paired.length hk
  have tup : ∀ i, i < rs.length -> ∃ a ks, rs.getD i .non = .ref a /\ kss.getD i [] = ks /\ its.getD i Value.none = .ref a /\ H a = some (.tup (ks.map V.int)) := fun i hi => by
    obtain ⟨ks, e, a, ea, ha⟩ := Paired.at hk (i := i) (a := rs[i]) (by simp [hi])
    obtain ⟨v, ev, rv⟩ := r1.get (i := i) (x := rs[i]) (by simp [hi])
    rw [ea] at rv
    refine ⟨a, ks, by simp [hi, ea], by rw [List.getD_eq_getElem?_getD, e]; rfl, ?_, ha⟩
    rw [List.getD_eq_getElem?_getD, ev]
    exact rv
  have tups : Paired (TupI s.heap) its kss := by
    have e1 := range_getD its Value.none
    have e2 := range_getD kss []
    rw [hl] at e1
    rw [<- kl] at e2
    rw [<- e1, <- e2]
    refine paired_map fun i hi => ?_
    obtain ⟨a, ks, _, e4, e5, e6⟩ := tup i (List.mem_range.mp hi)
    obtain ⟨_, us, ru, o, g, hc, n, hd⟩ := I.hok a _ e6
    rw [e4, e5]
    exact ⟨a, o, us.toArray, n, rfl, g, hc, hd, by simpa using intsAre_of ru⟩
  refine sorted_genG t1.isList (lex_ord kss) (by omega) (asks_tups tups hne) fun pm pb up => ?_
  obtain ⟨e, he⟩ := sortedAll_at s.heap its (outOf its pm).toArray
  have fr : s.heap.objs.size <= s.heap.objs.size + 1 := Nat.le_succ _
  have pl : ∀ i ∈ pm.toList, i < rs.length := fun i hi => by
    have := pb.list.mem_iff.mp hi
    rw [List.mem_range, hl] at this
    exact this
  have ls : pm.toList.length = rs.length := by rw [Array.length_toList, pb.size, hl]
  refine ⟨.ref (s.heap.objs.size + 1), upd H (s.heap.objs.size + 1) (.lst (pm.toList.map fun i => rs.getD i .non)), I.laid (t' := s.toks) (fun b o z => sortedAll_old z) fr ?_, rfl,
    q _ _ (pm.toList.map fun i => kss.getD i []) (paired_map fun i hi => ?_) ?_ ?_ (I.hok.fresh fr)⟩
  · refine ⟨?_, outOf its pm, e, paired_map fun i hi => ?_, he⟩
    · rw [List.length_map, ls, sizeLine_eq]; omega
    · obtain ⟨a, ks, e3, e4, e5, e6⟩ := tup i (pl i hi)
      rw [e3, e5]
      exact rfl
  · obtain ⟨a, ks, e3, e4, e5, e6⟩ := tup i (pl i hi)
    rw [e3, e4]
    exact ⟨a, rfl, e6⟩
  · have := pb.list.map fun i => kss.getD i []
    rw [hl, kl, range_getD] at this
    exact this
  · rw [List.pairwise_iff_getElem]
    intro i j hi hj hij
    rw [List.length_map] at hi hj
    have := up i j (by omega) (by rw [hl]; omega)
    simp only [List.getElem_map, Array.getElem_toList]
    have gi : pm.getD i 0 = pm[i] := by simp [Array.getD, show i < pm.size by rw [<- Array.length_toList]; exact hi]
    have gj : pm.getD j 0 = pm[j] := by simp [Array.getD, show j < pm.size by rw [<- Array.length_toList]; exact hj]
    rw [gi, gj] at this
    exact this
end
end L2
namespace L2
open PySem PySem.Spec PyProof.Rows
theorem sqT {K : PySem.W.Frag} {H H' : Hp} {a : Addr} {xs : List V} (e : Same H H') (h : SqT K H a xs) : SqT K H' a xs := e.seqK (k := .t) h
section
variable {X : Cx}
def rCatS (K : PySem.W.Frag) : R2 := fun x y H Q => ∃ a b xs ys, x = .ref a /\ y = .ref b /\ SqT K H a xs /\ SqT K H b ys /\ xs.length + ys.length <= sizeLine /\ ∀ p H', Same H H' -> SqT K H' p (xs ++ ys) -> Q (.ref p) H'
theorem op_catS : OpR X (binaryOp .Add) (rCatS X.K) := by
  intro pins s σ H x y v u Q I rx ry h
  obtain ⟨a, b, xs, ys, rfl, rfl, ha, hb, hz, q⟩ := h
  by_cases hx : xs = []
  · subst hx
    exact op_cat0 pins s σ H _ _ v u Q I rx ry ⟨a, b, ys, rfl, rfl, ha, hb, q b H (Same.refl H) hb⟩
  · refine op_catT pins s σ H _ _ v u Q I rx ry ⟨a, b, xs, ys, rfl, rfl, ha, hb, hx, hz, fun hy => ?_, fun hy p hp => q p _ (Same.new hp) (SqT.of upd_same)⟩
    subst hy
    exact q a H (Same.refl H) (by rw [List.append_nil]; exact ha)
end
end L2
namespace L2
open PySem PySem.W PyProof.Rows
section
variable {X : Cx}
end
section
variable {prog : Program} {w : World} {A : Around}
end
section
variable {X : Cx}
end
end L2
namespace L2
open PySem PySem.Spec PyProof.Rows
section
variable {X : Cx}
end
end L2
namespace L2
open PySem PySem.W PyProof.Rows
section
variable {prog : Program} {w : World} {d : Addr} {es : Array DictEntry} {ep : Nat} {o : Obj}
end
section
variable {X : Cx}
end
end L2
namespace L2
open PySem PySem.Spec PyProof.Rows
section
variable {X : Cx}
end
end L2
namespace L2
open PySem PySem.Spec PyProof.Rows PySem.MeetsSeq
section
variable {X : Cx}
end
end L2
namespace L2
open PySem PySem.Spec PyProof.Rows PySem.MeetsSeq
section
variable {X : Cx}
variable {o e : Expr} {es : List Expr} {to : TE} {t : TA} {name : Str} {apos cpos : Pos} {id : String} {r : V -> List V -> Hp -> VK -> Prop}
end
end L2
namespace HT
open PySem PySem.Spec PyProof.Rows
section
variable {prog : Program} {w : World} {A : Around} {E : Value -> Shared -> Prop} {s : Shared}
end
end HT
namespace L2
open PySem PySem.Spec PyProof.Rows
section
variable {X : Cx}
end
end L2
namespace L2
open PySem PySem.Spec PyProof.Rows
section
open PySem.SeqAt
open PySem.AutoSeq1 (wpAny_loadPart')
open PySem.MeetsSeq PySem.MeetsSeq2 PySem.MeetsSeq3
end
end L2
namespace L2
open PySem PySem.W PyProof.Rows
section
variable {prog : Program} {w : World} {A : Around} {E : Value -> Shared -> Prop} {s : Shared}
end
section
variable {X : Cx}
end
end L2
namespace L2
open PySem PySem.Spec PyProof.Rows
theorem cells_app : ∀ (names : List (Str × NameKind)) (n : Nat) (acc : List (Str × Addr)), cellsFrom n names acc = cellsFrom n names [] ++ acc
  | [], _, _ => rfl
  | (nm, k) :: r, n, acc => by
    unfold cellsFrom
    split
    · rw [cells_app r (n + 1) ((nm, n) :: acc), cells_app r (n + 1) [(nm, n)], List.append_assoc]
      rfl
    · exact cells_app r n acc
theorem ownOf_mem {x : Str} {d : Addr} : ∀ {names : List (Str × NameKind)} {n : Nat}, (x, d) ∈ cellsFrom n names [] -> (x, NameKind.cell) ∈ names
  | [], _, h => nomatch h
  | (nm, k) :: r, n, h => by
    unfold cellsFrom at h
    split at h
    · rename_i hk
      rw [cells_app] at h
      rcases List.mem_append.mp h with z | z
      · exact List.mem_cons_of_mem _ (ownOf_mem z)
      · have := List.mem_singleton.mp z
        have e : x = nm := congrArg Prod.fst this
        have ek : k = .cell := by simpa using hk
        rw [e, ek]
        exact List.mem_cons_self
    · exact List.mem_cons_of_mem _ (ownOf_mem h)
theorem lookup_app {x : Str} : ∀ {l m : List (Str × Addr)}, (l ++ m).lookup x = (l.lookup x).or (m.lookup x)
  | [], m => rfl
  | (y, d) :: l, m => by
    rw [List.cons_append, List.lookup_cons, List.lookup_cons]
    cases x == y
    · exact lookup_app
    · rfl
theorem ownOf_has {x : Str} : ∀ {names : List (Str × NameKind)} {n : Nat}, (x, NameKind.cell) ∈ names -> ∃ d, (cellsFrom n names []).lookup x = some d
  | [], _, h => nomatch h
  | (nm, k) :: r, n, h => by
    unfold cellsFrom
    rcases List.mem_cons.mp h with e | e
    · injection e with e1 e2
      subst e1 e2
      rw [if_pos (by rfl), cells_app, lookup_app]
      cases hl : (cellsFrom (n + 1) r []).lookup x with
      | some d => exact ⟨d, rfl⟩
      | none => exact ⟨n, by simp⟩
    · split
      · obtain ⟨d, hd⟩ := ownOf_has (n := n + 1) e
        refine ⟨d, ?_⟩
        rw [cells_app, lookup_app, hd]
        rfl
      · exact ownOf_has e
def csOf (env : Env) (C : Addr) (names : List (Str × NameKind)) : List (Str × Addr) := cellsFrom (C + 1) names (clOf env names [])
section
variable {env : Env} {C : Addr} {names : List (Str × NameKind)} {x : Str} {d : Addr}
theorem csOf_get (h : (csOf env C names).lookup x = some d) : (x, d) ∈ cellsFrom (C + 1) names [] \/ (clOf env names []).lookup x = some d := by
  unfold csOf at h
  rw [cells_app, lookup_app] at h
  cases hl : (cellsFrom (C + 1) names []).lookup x with
  | some e => rw [hl] at h; cases h; exact .inl (PySem.mem_of_lookup hl)
  | none => rw [hl] at h; exact .inr h
theorem csOf_own (h : (cellsFrom (C + 1) names []).lookup x = some d) : (csOf env C names).lookup x = some d := by
  unfold csOf
  rw [cells_app, lookup_app, h]
  rfl
theorem csOf_new (h : (x, NameKind.cell) ∈ names) : ∃ d, (csOf env C names).lookup x = some d := let ⟨d, hd⟩ := ownOf_has (n := C + 1) h; ⟨d, csOf_own hd⟩
theorem csOf_old (h : ∃ d, (clOf env names []).lookup x = some d) : ∃ d, (csOf env C names).lookup x = some d := by
  unfold csOf
  rw [cells_app, lookup_app]
  cases (cellsFrom (C + 1) names []).lookup x with
  | some e => exact ⟨e, rfl⟩
  | none => exact h
theorem csOf_free (own : ∀ y ∈ names, y.2 = .cell -> names.lookup y.1 = some .cell) (f : names.lookup x = some .free) (h : (clOf env names []).lookup x = some d) : (csOf env C names).lookup x = some d := by
  unfold csOf
  rw [cells_app, lookup_app]
  cases hl : (cellsFrom (C + 1) names []).lookup x with
  | some e =>
    have := own _ (ownOf_mem (PySem.mem_of_lookup hl)) rfl
    rw [f] at this
    cases this
  | none => exact h
end
theorem compHeap (h : Heap) (names : List (Str × NameKind)) : (∃ m, (pushCells (h.push { cls := .type "dict", data := .dict #[] }) names).Ns h.objs.size m) /\ CellsOk (pushCells (h.push { cls := .type "dict", data := .dict #[] }) names) (h.objs.size + 1) (cellsFrom (h.objs.size + 1) names []) /\ ∀ b o, h.get? b = some o -> (pushCells (h.push { cls := .type "dict", data := .dict #[] }) names).get? b = some o := by
  have ok := cellsFrom_ok names (h.push { cls := .type "dict", data := .dict #[] }) (h.objs.size + 1) [] ⟨fun _ _ hm => (nomatch hm), List.Pairwise.nil⟩ (by rw [Heap.size_push]; exact Nat.le_refl _)
  rw [Heap.size_push] at ok
  exact ⟨⟨_, (Heap.Ns.new h (.type "dict")).keeps (pushCells_keeps _ _)⟩, ok, fun b o e => pushCells_keeps _ _ b o (Heap.get?_push_of_some _ e)⟩
theorem newCompEnvC {M : Model} {A : Around} {E : Value -> Shared -> Prop} {s : Shared} {scope : Scope} {globals : Addr} {cl : List (Str × Addr)} {qual : Str} {env : Env} {Q : Env -> Shared -> Prop}
    (h : Q { scope := scope, locals := s.heap.objs.size, globals := globals, cells := cellsFrom (s.heap.objs.size + 1) scope.names cl, qual := qual, func := none, code := env.code, frame := env.frame, builtins := env.builtins } { s with heap := pushCells (s.heap.push { cls := .type "dict", data := .dict #[] }) scope.names }) :
    wpAny M A (newFunctionEnv scope globals cl [] qual none .none (some env)) Q E s := by
  simp only [newFunctionEnv, Option.isSome_some, if_true]
  refine wpAny_bind (wpAny_alloc ?_)
  refine wpAny_bind (wpAny_layCells _ (fun name kind cells => by cases hkc : kind == NameKind.cell <;> simp [hkc]) _ _ _ _ ?_)
  rw [show ({ s with heap := s.heap.push { cls := .type "dict", data := .dict #[] } } : Shared).heap.objs.size = s.heap.objs.size + 1 from Heap.size_push ..]
  rw [List.forIn_nil]
  exact wpAny_bind (wpAny_pure (wpAny_pure h))
def cxCompC (X : Cx) (scope : Scope) (N' : List Str) (fp : List Addr) (C : Addr) (s : Shared) (H : Hp) : Cx where
  prog := X.prog
  w := X.w
  K := X.K
  mg := X.mg
  base := X.base
  A := X.A
  N := N'
  s₀ := s
  H₀ := H
  env := compEnvC scope (csOf X.env C scope.names) C X.env
  outer := X.stack
  stack := X.stack
  ex := fp
  fn := fun y => scope.names.lookup y == some NameKind.cell
  calm := true
  pn := X.pn
  xe := fun _ _ => False
structure CompOkC (X : Cx) (scope : Scope) (N' : List Str) (fr : List (Option Nat)) : Prop where
  kind : scope.kind = .function
  own : ∀ y ∈ scope.names, y.2 = .cell -> scope.names.lookup y.1 = some .cell
  names : ∀ y ∈ scope.names, y.2 = .local -> scope.names.lookup y.1 = some .local
  frees : ∀ y ∈ scope.names, y.2 = .free -> X.env.kindOf y.1 = some .cell \/ X.env.kindOf y.1 = some .free
  fr : frOk X.N X.env.scope.names scope.names N' fr = true
def compBC (kinds : List (Str × NameKind)) (N : List Str) (scope : Scope) (N' : List Str) (fr : List (Option Nat)) : Bool :=
  (scope.kind == .function) && (scope.names.all fun y => y.2 != .cell || scope.names.lookup y.1 == some .cell) && (scope.names.all fun y => y.2 != .local || scope.names.lookup y.1 == some .local) &&
  (scope.names.all fun y => y.2 != .free || (kinds.lookup y.1 == some .cell || kinds.lookup y.1 == some .free)) && frOk N kinds scope.names N' fr
theorem compOkC_of {X : Cx} {scope : Scope} {N' : List Str} {fr : List (Option Nat)} (h : compBC X.env.scope.names X.N scope N' fr = true) : CompOkC X scope N' fr := by
  unfold compBC at h
  simp only [Bool.and_eq_true, List.all_eq_true] at h
  obtain ⟨⟨⟨⟨h1, h2⟩, h3⟩, h4⟩, h5⟩ := h
  refine ⟨by simpa using h1, fun y hy e => ?_, fun y hy e => ?_, fun y hy e => ?_, h5⟩
  · have := h2 y hy
    rw [e] at this
    simpa using this
  · have := h3 y hy
    rw [e] at this
    simpa using this
  · have := h4 y hy
    rw [e] at this
    show X.env.scope.names.lookup y.1 = some .cell \/ X.env.scope.names.lookup y.1 = some .free
    simpa using this
section
variable {X : Cx} {scope : Scope} {N' : List Str} {fr : List (Option Nat)} {pins : List (Addr × Obj)} {σ : St} {H : Hp} {s : Shared} {fp : List Addr}
theorem CompOkC.has (c : CompOkC X scope N' fr) (ok : X.Ok) : ∀ y ∈ scope.names, y.2 = .free -> ∃ d, X.env.cells.lookup y.1 = some d := fun y hy h => ok.has _ (c.frees y hy h)
theorem inv_compC {C : Addr} {h' : Heap} {tk : Nat} {m : Str -> Option Value} (c : CompOkC X scope N' fr) (hc : X.calm = true) (I : Inv X pins σ H s) (hf : ∀ b ∈ fp, FpOk X pins H b) (hlt : ∀ b ∈ fp, b < s.heap.objs.size)
    (old : ∀ b o, s.heap.get? b = some o -> h'.get? b = some o) (hC : s.heap.objs.size <= C) (hn : h'.Ns C m) (ok : CellsOk h' (C + 1) (cellsFrom (C + 1) scope.names [])) :
    Inv (cxCompC X scope N' fp C s H) pins (stComp fr σ) H { s with heap := h', toks := tk } := by
  have get : ∀ x d, (csOf X.env C scope.names).lookup x = some d -> ((x, d) ∈ cellsFrom (C + 1) scope.names []) \/ X.env.cells.lookup x = some d := fun x d e => by
    rcases csOf_get e with q | q
    · exact .inl q
    · rcases clOf_get scope.names [] (c.has I.ok) q with q | q
      · simp at q
      · exact .inr q
  have low : ∀ x d, X.env.cells.lookup x = some d -> d < C + 1 := fun x d e => by
    obtain ⟨v, z⟩ := I.cell x d e
    exact Nat.lt_succ_of_le (Nat.le_trans (Nat.le_of_lt z.lt) hC)
  have old2 : ∀ b, b < s.heap.objs.size -> b ≠ C := fun b hb => Nat.ne_of_lt (Nat.lt_of_lt_of_le hb hC)
  have hl : (stComp fr σ).length = N'.length := by
    have q := c.fr
    unfold frOk at q
    rw [Bool.and_eq_true] at q
    have q1 : N'.length = fr.length := by simpa using q.1
    rw [stComp, List.length_map, q1]
  refine ⟨⟨I.ok.mod, c.kind, I.ok.glob, I.ok.blt, hC, ?_, ?_, ?_, fun _ => I.ok.hd hc, I.ok.frames, .inl rfl, ?_, I.bs, Nat.le_trans I.ok.bsz I.sz, ?_, ?_, I.stack, I.stkFree⟩, rfl, I.bare, Un.kept old, ⟨m, hn, ?_⟩, ?_, I.hok.fresh hC, ?_, ?_, I.hok.kept old, hl⟩
  · intro x y d e1 e2
    rcases get x d e1 with q1 | q1
    · rcases get y d e2 with q2 | q2
      · exact name_of_addr ok.apart q1 q2
      · exact absurd (low y d q2) (Nat.not_lt.mpr (ok.empty x d q1).2)
    · rcases get y d e2 with q2 | q2
      · exact absurd (low x d q1) (Nat.not_lt.mpr (ok.empty y d q2).2)
      · exact I.ok.inj x y d q1 q2
  · intro x hx
    have hx' : (relN X.env scope.names).lookup x = some .cell \/ (relN X.env scope.names).lookup x = some .free := hx
    have fin : scope.names.lookup x = some .free -> ∃ d, (csOf X.env C scope.names).lookup x = some d := fun e => csOf_old (clOf_has scope.names [] (PySem.mem_of_lookup e))
    rcases hx' with q | q
    · obtain ⟨k, e, z⟩ := relN_get scope.names q
      rcases z with z | ⟨z, _⟩
      · subst z
        exact csOf_new (PySem.mem_of_lookup e)
      · subst z
        exact fin e
    · obtain ⟨k, e, z⟩ := relN_get scope.names q
      rcases z with z | ⟨_, z⟩
      · subst z
        exact fin e
      · cases z
  · intro x d hx e
    rcases get x d e with q | q
    · exact Nat.le_trans hC (Nat.le_trans (Nat.le_succ _) (ok.empty x d q).2)
    · have hx' : (scope.names.lookup x == some NameKind.cell) = true := hx
      have hx2 : scope.names.lookup x = some .cell := by simpa using hx'
      obtain ⟨d2, e2⟩ := ownOf_has (n := C + 1) (PySem.mem_of_lookup hx2)
      have e3 : (csOf X.env C scope.names).lookup x = some d2 := csOf_own e2
      have e' : (csOf X.env C scope.names).lookup x = some d := e
      rw [e3] at e'
      cases e'
      exact Nat.le_trans hC (Nat.le_trans (Nat.le_succ _) (ok.empty x _ (PySem.mem_of_lookup e2)).2)
  · refine fun b hb => ⟨old2 b (hlt b hb), fun x d e => ?_⟩
    rcases get x d e with q | q
    · exact Nat.ne_of_gt (Nat.lt_of_lt_of_le (Nat.lt_of_lt_of_le (hlt b hb) hC) (Nat.le_trans (Nat.le_succ _) (ok.empty x d q).2))
    · exact (hf b hb).2.2.2.2.1 x d q
  · intro b o e hb
    rcases (hf b hb).2.2.2.1 with z | z
    · exact I.ok.noex b o e z
    · exact absurd (Nat.lt_of_lt_of_le (Heap.lt_size e) (Nat.le_trans I.ok.bsz z)) (Nat.lt_irrefl _)
  · intro b hb hs
    rcases List.mem_cons.mp (I.stkSub b hs) with z | z
    · exact (hf b hb).2.1 z
    · exact (hf b hb).2.2.1 z
  · intro i x v e1 e2 e3
    have e2' : (fr.map fun o => o.bind fun j => (σ[j]?).join)[i]? = some (some v) := e2
    rw [List.getElem?_map] at e2'
    cases q : fr[i]? with
    | none => rw [q] at e2'; cases e2'
    | some o =>
      rw [q] at e2'
      have e3' : (o.bind fun j => (σ[j]?).join) = some v := Option.some.inj e2'
      cases o with
      | none => cases e3'
      | some j =>
        have e4 : (σ[j]?).join = some v := e3'
        have e5 : σ[j]? = some (some v) := by
          cases z : σ[j]? with
          | none => rw [z] at e4; cases e4
          | some w => rw [z] at e4; exact congrArg some e4
        obtain ⟨f1, f2, f3⟩ := frOk_at c.fr e1 q
        obtain ⟨m0, hn0, hl0⟩ := I.loc
        have vis : Vis X.env.scope x := f3.elim (fun z => .inr (.inl z)) fun z => .inr (.inr z)
        obtain ⟨u, r, look⟩ := hl0 j x v f1 e5 vis
        refine ⟨u, r, ?_⟩
        rcases look with ⟨k, _⟩ | ⟨k, d, hd, hcell⟩
        · have k' : X.env.scope.names.lookup x = some .local := k
          rcases f3 with z | z <;> (rw [k'] at z; cases z)
        · refine .inr ⟨?_, d, ?_, ?_⟩
          · have e3'' : (relN X.env scope.names).lookup x = some .local \/ (relN X.env scope.names).lookup x = some .cell \/ (relN X.env scope.names).lookup x = some .free := e3
            rcases e3'' with z | z | z
            · obtain ⟨k2, e, z2⟩ := relN_get scope.names z
              rw [f2] at e
              cases e
              rcases z2 with z2 | ⟨_, z2⟩ <;> cases z2
            · exact .inl z
            · exact .inr z
          · obtain ⟨d', e⟩ := clOf_has (env := X.env) scope.names [] (PySem.mem_of_lookup f2)
            have e2 : (csOf X.env C scope.names).lookup x = some d' := csOf_free (c.own) f2 e
            rcases get x d' e2 with z | z
            · exact absurd (c.own _ (ownOf_mem z) rfl) (by rw [f2]; intro z; cases z)
            · rw [hd] at z
              cases z
              exact e2
          · obtain ⟨ob, h1, h2⟩ := hcell
            exact ⟨ob, old _ _ h1, h2⟩
  · intro x d e
    rcases get x d e with q | q
    · exact ⟨none, (ok.empty x d q).1⟩
    · obtain ⟨v, ob, h1, h2⟩ := I.cell x d q
      exact ⟨v, ob, old _ _ h1, h2⟩
  · intro x d e
    rcases get x d e with q | q
    · exact I.hok.fresh (Nat.le_trans hC (Nat.le_trans (Nat.le_succ _) (ok.empty x d q).2))
    · exact I.freeC x d q
  · intro p hp
    obtain ⟨e, n, ne, nf, dd⟩ := I.pin p hp
    refine ⟨old _ _ e, n, old2 _ (Heap.lt_size e), fun hs => ?_, dd⟩
    rcases List.mem_cons.mp (I.stkSub p.1 hs) with z | z
    · exact ne z
    · exact nf z
end
section
variable {X : Cx} {scope : Scope} {N' : List Str} {fr : List (Option Nat)} {pins : List (Addr × Obj)} {σ : St} {H : Hp} {s : Shared} {fp : List Addr} {it : Addr} {tn : Nat -> Heap -> Prop} {J : It}
  {elt tg iter : Expr} {ifs : List Expr} {g : TG} {tt : TT} {te : TE} {pos : Pos} {fin : List V -> Hp -> Prop} {W : Nat -> Nat -> List V -> St -> Hp -> Prop} {RR : Value -> Addr -> Result -> Shared -> Prop} {E : Value -> Shared -> Prop}
theorem comp_blockC (c : CompOkC X scope N' fr) (hc : X.calm = true) (I : Inv X pins σ H s) (T : Turn X.prog X.w X.K tg J fp it tn) (st : tn 0 s.heap) (hf : ∀ b ∈ fp, FpOk X pins H b)
    (hg : ∀ fp C s H, PG (cxCompC X scope N' fp C s H) tg g) (ht : ∀ fp C s H, PIfs (cxCompC X scope N' fp C s H) ifs tt) (he : ∀ fp C s H, PE (cxCompC X scope N' fp C s H) elt te)
    (hW : CompW J g tt te fin W) (h0 : ∃ m, W 0 m [] (stComp fr σ) H)
    (hRR : ∀ D C ys H' s', Inv X pins σ (upd H' D (.lst ys)) s' -> (∃ m, s'.heap.Ns C m) -> FpOk X pins (upd H' D (.lst ys)) C -> H' D = none -> fin ys H' -> RR (.ref D) C (.ok .next) s') :
    wpAny (model X.prog X.w) X.A (newList []) (fun acc s3 => wpAny (model X.prog X.w) X.A (newFunctionEnv scope X.env.globals (clOf X.env scope.names []) [] X.env.qual none .none (some X.env)) (fun cenv s4 =>
      codeAny (model X.prog X.w) X.A (.compStart (.ListComp elt [⟨tg, iter, ifs, 0⟩] scope pos) 0 (.ref it) acc { cenv with scope := relabel scope X.env }) (RR acc cenv.locals) s4) E s3) E s := by
  refine wpAny_newObj_type (newCompEnvC ?_)
  dsimp only
  generalize hH2 : s.heap.push { cls := .type "list", dict := none, data := .seq ([] : List Value).toArray } = H2
  have hD0 : s.heap.objs.size < H2.objs.size := by rw [<- hH2, Heap.size_push]; exact Nat.lt_succ_self _
  generalize hDD : s.heap.objs.size = D at hD0 ⊢
  obtain ⟨⟨m1, hns⟩, ok0, keep0⟩ := compHeap H2 scope.names
  generalize pushCells (H2.push { cls := .type "dict", data := .dict #[] }) scope.names = h1 at hns ok0 keep0 ⊢
  generalize hCC : H2.objs.size = C at hns ok0 hD0 ⊢
  have up : ∀ b o, s.heap.get? b = some o -> h1.get? b = some o := fun b o e => keep0 b o (by rw [<- hH2]; exact Heap.get?_push_of_some _ e)
  have accD : h1.get? D = some { cls := .type "list", dict := none, data := .seq ([] : List Value).toArray } := keep0 _ _ (by rw [<- hH2, <- hDD]; exact Heap.get?_push_size _ rfl)
  have hlt : ∀ b ∈ fp, b < s.heap.objs.size := fun b hb => by
    obtain ⟨o, e, _⟩ := T.obj 0 _ st b hb
    exact Heap.lt_size e
  have hle : s.heap.objs.size <= C := by rw [hDD]; exact Nat.le_of_lt hD0
  generalize hX' : cxCompC X scope N' fp C s H = X'
  have I1 : Inv X' pins (stComp fr σ) H { s with heap := h1 } := by
    subst hX'
    exact inv_compC (tk := s.toks) c hc I hf hlt up hle hns ok0
  have st1 : tn 0 h1 := T.keep _ _ _ st fun b hb o e => up b o e
  have pm : X'.prog = X.prog := by subst hX'; rfl
  have wm : X'.w = X.w := by subst hX'; rfl
  have km : X'.K = X.K := by subst hX'; rfl
  have cm : X'.calm = true := by subst hX'; rfl
  have am : X'.A = X.A := by subst hX'; rfl
  have xm : X'.xe = fun _ _ => False := by subst hX'; rfl
  have lm : X'.env.locals = C := by subst hX'; rfl
  have szm : X'.s₀.heap.objs.size = s.heap.objs.size := by subst hX'; rfl
  have nm : X'.pn = X.pn := by subst hX'; rfl
  have hg' := hg fp C s H
  have ht' := ht fp C s H
  have he' := he fp C s H
  have em : X'.env = compEnvC scope (csOf X.env C scope.names) C X.env := by subst hX'; rfl
  have fsm : X'.fs = frs X.stack := by subst hX'; rfl
  have exm : X'.ex = fp := by subst hX'; rfl
  rw [hX'] at hg' ht' he'
  have ageP : ∀ p ∈ X.pn ++ pins, p.1 < D := fun p hp => by rw [<- hDD]; exact Heap.lt_size (I.pin p hp).1
  have getC : ∀ x d, X'.env.cells.lookup x = some d -> C + 1 <= d \/ X.env.cells.lookup x = some d := fun x d e => by
    rw [em] at e
    rcases csOf_get e with q | q
    · exact .inl (ok0.empty x d q).2
    · rcases clOf_get scope.names [] (c.has I.ok) q with q | q
      · simp at q
      · exact .inr q
  have ageC : ∀ x d, X'.env.cells.lookup x = some d -> d ≠ D := fun x d e => by
    rcases getC x d e with q | q
    · exact Nat.ne_of_gt (Nat.lt_of_lt_of_le hD0 (Nat.le_trans (Nat.le_succ _) q))
    · obtain ⟨v, z⟩ := I.cell x d q
      exact Nat.ne_of_lt (by rw [<- hDD]; exact z.lt)
  have fps : ∀ {H' : Hp} {oD : Obj}, (∀ b ∈ fp, H' b = none) -> ∀ b ∈ fp, FpOk X' (pins ++ [(D, oD)]) H' b := fun {H' oD} hn b hb => by
    obtain ⟨_, f1, f2, f3, f4, f5⟩ := hf b hb
    have hbD : b < D := by rw [<- hDD]; exact hlt b hb
    refine ⟨hn b hb, ?_, ?_, .inl (by rw [exm]; exact hb), fun x d e => ?_, fun p hp => ?_⟩
    · rw [lm]; exact Nat.ne_of_lt (Nat.lt_trans hbD hD0)
    · rw [fsm]
      intro hs
      rcases List.mem_cons.mp (I.stkSub b hs) with z | z
      · exact f1 z
      · exact f2 z
    · rcases getC x d e with q | q
      · exact Nat.ne_of_gt (Nat.lt_of_lt_of_le (Nat.lt_trans hbD hD0) (Nat.le_trans (Nat.le_succ _) q))
      · exact f4 x d q
    · rw [nm, <- List.append_assoc] at hp
      rcases List.mem_append.mp hp with z | z
      · exact f5 p z
      · rw [List.mem_singleton.mp z]
        exact Nat.ne_of_gt hbD
  have pinD : ∀ {σ' : St} {H' : Hp} {s' : Shared} {its : List Value} {k : Nat}, Inv X' pins σ' H' s' -> s'.heap.get? D = some { cls := .type "list", data := .seq its.toArray k } -> H' D = none ->
      Inv X' (pins ++ [(D, { cls := .type "list", data := .seq its.toArray k })]) σ' H' s' := fun {σ' H' s' its k} J0 e n => J0.pins_of fun p hp => by
    rcases List.mem_append.mp hp with z | z
    · exact J0.pin p (List.mem_append_right _ z)
    · rw [List.mem_singleton.mp z]
      refine ⟨e, n, ?_, ?_, fun v q => by cases q⟩
      · show D ≠ X'.env.locals
        rw [lm]
        exact Nat.ne_of_lt hD0
      · rw [fsm]
        intro hs
        have hb := I.stkSub D hs
        rcases List.mem_cons.mp hb with z | z
        · have := I.lt
          rw [<- z, hDD] at this
          exact Nat.lt_irrefl _ this
        · exact I.nofs (Nat.le_of_eq hDD) z
  have loop : ∀ s0 : Shared, s0 = { s with heap := h1 } ->
      codeAny (model X.prog X.w) X.A (.compLoop (.ListComp elt [⟨tg, iter, ifs, 0⟩] scope pos) 0 (.ref it) (.ref D) X'.env) (RR (.ref D) C) s0 := by
    rintro s0 rfl
    obtain ⟨m0, w0⟩ := h0
    refine comp_loop (fun n s' => ∃ i ys σ' H' its k, Inv X' pins σ' H' s' /\ tn i s'.heap /\ (∀ b ∈ fp, H' b = none) /\ s'.heap.get? D = some { cls := .type "list", data := .seq (its : List Value).toArray k } /\ H' D = none /\ Vals ys its /\ W i n ys σ' H')
      ?_ m0 ⟨0, [], stComp fr σ, H, [], 0, I1, st1, fun b hb => (hf b hb).1, accD, I.hok.fresh (by rw [hDD]; exact Nat.le_refl _), .nil, w0⟩
    rintro n s1 ⟨i, ys, σ1, H1, its, k, J1, t1, n1, d1, nD1, v1, w1⟩
    have J1' := pinD J1 d1 nD1
    rcases hW i n ys σ1 H1 w1 with ⟨stop, hlen, fi⟩ | ⟨go, hlen, step⟩
    · have a1 := T.done X' pm wm km cm i _ s1 σ1 H1 (fun _ _ => False) J1' (fps n1) t1 stop
      rw [am] at a1
      refine thn a1 fun r s2 ⟨hr, J2⟩ => ?_
      subst hr
      obtain ⟨d2, nD2, _⟩ := J2.pin (D, _) (List.mem_append_right _ (List.mem_append_right _ List.mem_cons_self))
      have u2 : Un (frs X.stack) fp H H1 s.heap s2.heap := by
        have := J2.base
        subst hX'
        exact this
      have hok2 : HOk X.prog X.w (upd H1 D (.lst ys)) s2.heap := by
        have h2 := J2.hok
        rw [pm, wm] at h2
        exact h2.track nD1 ⟨hlen, its, k, v1, d2⟩
      have J3 : Inv X pins σ (upd H1 D (.lst ys)) s2 := by
        refine I.call' (ch := fp) (by have := J2.os; subst hX'; exact this) ⟨fun b o e n hb hx => u2.keep b o e n hb hx, fun b o e n hb hx => u2.slot b o e n hb hx, fun b o e n hx => ?_, fun b o e hx => u2.there b o e hx, fun b xs e => ?_, fun b o u e => ?_, fun b ps e => ?_⟩ hok2 J2.bare fun b hb => ?_
        · have ne : b ≠ D := Nat.ne_of_lt (by rw [<- hDD]; exact Heap.lt_size e)
          rw [upd_ne ne]
          exact u2.free b o e n hx
        · have q := u2.tups b xs e
          rw [upd_ne (ne_of_none q nD1)]
          exact q
        · have q := u2.frzs b o u e
          rw [upd_ne (ne_of_none q nD1)]
          exact q
        · obtain ⟨more, q⟩ := u2.tbls b ps e
          exact ⟨more, by rw [upd_ne (ne_of_none q nD1)]; exact q⟩
        · obtain ⟨_, f1, f2, f3, f4, f5⟩ := hf b hb
          exact ⟨f3, f1, f4, f5⟩
      have nC : (upd H1 D (.lst ys)) C = none := by
        rw [upd_ne (Nat.ne_of_gt hD0)]
        have := J2.free
        rw [lm] at this
        exact this
      refine hRR D C ys H1 s2 J3 ?_ (I.fpOk hle nC) nD1 fi
      obtain ⟨m, hm, _⟩ := J2.loc
      rw [lm] at hm
      exact ⟨m, hm⟩
    · have a1 := T.item X' pm wm km cm i _ s1 σ1 H1 (fun _ _ => False) J1' (fps n1) t1 go
      rw [am] at a1
      refine thn a1 fun r s2 ⟨u, hr, h2⟩ => ?_
      subst hr
      refine thn h2 fun _ s3 ⟨x, H3, J3, r3, y3, t3, n3⟩ => ?_
      have J3' := J3.pinned (fps n3) (T.obj _ _ t3)
      have a3 := hg' _ s3 σ1 H3 x u _ J3' r3 (step x H3 y3)
      rw [pm, wm, am, xm] at a3
      refine thn a3 fun _ s4 ⟨σ4, H4, J4, q4⟩ => ?_
      have a4 := ht' _ s4 σ4 H4 _ J4 q4
      rw [pm, wm, am, xm] at a4
      refine thn a4 fun ok s5 ⟨H5, J5, q5⟩ => ?_
      have keepT : ∀ {σ' : St} {H' : Hp} {s' : Shared}, Inv X' (pins ++ [(D, { cls := .type "list", data := .seq its.toArray k })] ++ pinsAt fp s3.heap) σ' H' s' -> tn (i + 1) s'.heap /\ (∀ b ∈ fp, H' b = none) /\ s'.heap.get? D = some { cls := .type "list", data := .seq its.toArray k } /\ H' D = none /\ Inv X' pins σ' H' s' := fun {σ' H' s'} J0 => by
        refine ⟨T.keep _ _ _ t3 fun b hb o e => (J0.pin (b, o) (List.mem_append_right _ (List.mem_append_right _ (mem_pinsAt hb e)))).1, fun b hb => ?_, ?_, ?_, J0.unpinned.unpinned⟩
        · obtain ⟨o, e, _⟩ := T.obj _ _ t3 b hb
          exact (J0.pin (b, o) (List.mem_append_right _ (List.mem_append_right _ (mem_pinsAt hb e)))).2.1
        · exact (J0.pin (D, _) (List.mem_append_right _ (List.mem_append_left _ (List.mem_append_right _ List.mem_cons_self)))).1
        · exact (J0.pin (D, { cls := .type "list", data := .seq its.toArray k }) (List.mem_append_right _ (List.mem_append_left _ (List.mem_append_right _ List.mem_cons_self)))).2.1
      cases ok with
      | false =>
        obtain ⟨m', hm, w'⟩ := q5
        obtain ⟨e1, e2, e3, e4, e5⟩ := keepT J5
        rw [if_neg Bool.false_ne_true]
        exact ⟨m', hm, i + 1, ys, σ4, H5, its, k, e5, e1, e2, e3, e4, v1, w'⟩
      | true =>
        rw [if_pos rfl]
        have a5 := he' _ s5 σ4 H5 _ J5 q5
        rw [pm, wm, am, xm] at a5
        refine thn a5 fun u6 s6 ⟨y, H6, J6, r6, m', hm, w6⟩ => ?_
        obtain ⟨e1, e2, e3, e4, e5⟩ := keepT J6
        refine append_at (hsz := by show its.toArray.size <= sizeLine; rw [List.size_toArray, <- v1.length]; exact Nat.le_of_lt hlen) e3 fun h7 sb7 d7 => ?_
        have J7 : Inv X' pins σ4 H6 { s6 with heap := h7 } := e5.turned (t' := s6.toks) (it := D) (fun b o hb e => sb7.extBut b o hb e) e4 (by rw [lm]; exact Nat.ne_of_lt hD0) (.inr (by rw [szm, hDD]; exact Nat.le_refl _)) (fun x d e => ageC x d e) fun p hp => by
          rw [nm] at hp
          exact Nat.ne_of_lt (ageP p hp)
        refine ⟨m', hm, i + 1, ys ++ [y], σ4, H6, its ++ [u6], k + 1, J7, T.keep _ _ _ e1 fun b hb o e => sb7.extBut b o (Nat.ne_of_lt (by rw [<- hDD]; exact hlt b hb)) e, e2, ?_, e4, v1.append (.cons r6 .nil), w6⟩
        rw [d7, List.push_toArray]
  have lp := loop _ rfl
  rw [em] at lp
  exact codeAny_compStart_list lp (T.self _ 0 _ _ _ st1 lp)
theorem pe_compC {wi : TI} (c : CompOkC X scope N' fr) (hc : X.calm = true) (hi : PI X tg iter wi) (hg : ∀ fp C s H, PG (cxCompC X scope N' fp C s H) tg g) (ht : ∀ fp C s H, PIfs (cxCompC X scope N' fp C s H) ifs tt)
    (he : ∀ fp C s H, PE (cxCompC X scope N' fp C s H) elt te) (hs : ∀ x, foldedSetIterable iter X.env x = pure x := by intro _; rfl) : PE X (.ListComp elt [⟨tg, iter, ifs, 0⟩] scope pos) (tComp wi fr g tt te) := by
  intro pins s σ H Q I h
  rw [eval_ListComp]
  refine wpAny_comprehension_free (use := none) rfl hs (closure_is (c.has I.ok)) c.kind c.names (thn (hi pins s σ H _ I h) fun v s1 h1 => thn h1 fun itv s2 h2 => ?_)
  obtain ⟨it, fp, tn, J, H2, e, I2, T, st2, f2, W, hW, h0⟩ := h2
  subst e
  refine comp_blockC c hc I2 T st2 f2 hg ht he hW h0 ?_
  rintro D C ys H' s' J3 ⟨m, hm⟩ ⟨f0, f1, _, f3, f4, f5⟩ nD fi
  exact ⟨m, hm, fun h'' sb => ⟨.ref D, _, J3.turned (t' := s'.toks) (it := C) (fun b o hb e => sb.extBut b o hb e) f0 f1 f3 f4 f5, rfl, fi D nD⟩⟩
end
end L2
namespace L2
open PySem PySem.Spec PyProof.Rows PySem.MeetsSeq PySem.AutoSeq1
end L2
namespace L2
open PySem PySem.Spec PyProof.Rows
section
variable {X : Cx}
end
def rLenK (K : PySem.W.Frag) : List V -> Hp -> VK -> Prop := fun xs H Q => ∃ p ys, xs = [.ref p] /\ (SqL K H p ys \/ SqT K H p ys) /\ Q (.int ys.length) H
def rIsiK (K : PySem.W.Frag) : List V -> Hp -> VK -> Prop := fun xs H Q => ∃ x c t u b, xs = [x, c] /\ RelV c u /\ TyOf K H x t /\ PySem.W.kitOne K t u = some b /\ Q (.bl b) H
def rTupOfK (K : PySem.W.Frag) : List V -> Hp -> VK -> Prop := fun xs H Q => ∃ p ys, xs = [.ref p] /\ ((SqL K H p ys /\ ∀ l, H l = none -> Q (.ref l) (upd H l (.tup ys))) \/ (SqT K H p ys /\ Q (.ref p) H))
theorem seq_abs {A B : TS} {D : Ends} {σ : St} {H : Hp} (h : ∀ M : St -> Hp -> Prop, (∀ σ H, B D σ H -> M σ H) -> A { D with nx := M } σ H) : tSeq A B D σ H := h _ fun _ _ z => z
section
variable {X : Cx} (K : PySem.W.Frag)
theorem ix_listK (h : X.K = K := by rfl) : IxR X (rIxL K) := h ▸ ix_list
theorem ix_tupK (h : X.K = K := by rfl) : IxR X (rIxT K) := h ▸ ix_tup
theorem sl_listK (h : X.K = K := by rfl) : SlR X (rSlL K) := h ▸ sl_list
theorem sl_tupK (h : X.K = K := by rfl) : SlR X (rSlT K) := h ▸ sl_tup
theorem call_lenK (h : X.K = K := by rfl) : CallR X (.builtin "len") (rLenK K) := h ▸ call_len_seq
theorem call_isiK (h : X.K = K := by rfl) : CallR X (.builtin "isinstance") (rIsiK K) := h ▸ call_isinst
theorem call_tuple_ofK (h : X.K = K := by rfl) : CallR X (.type "tuple") (rTupOfK K) := h ▸ call_tuple_of
theorem op_eqSK (hu : X.A.units + 66 < cLine) (h : X.K = K := by rfl) : OpR X (compareOp .Eq) (rSame K true) := h ▸ op_eqS hu
theorem op_neSK (hu : X.A.units + 66 < cLine) (h : X.K = K := by rfl) : OpR X (compareOp .NotEq) (rSame K false) := h ▸ op_neS hu
theorem op_geTK (hu : X.A.units + 66 < cLine) (h : X.K = K := by rfl) : OpR X (compareOp .GtE) (rGeT K) := h ▸ op_geT hu
theorem pi_seqK {tg : Expr} (k : Kd) {l : Expr} {tl : TE} (hl : PE X l tl) (h : X.K = K := by rfl) : PI X tg l (iSeq k K tl) := h ▸ pi_seq k hl
theorem pg_tupK (n : Nat) {es : List Expr} {k : Nat} {t : TGs} {pos : Pos} (hc : X.calm = true) (h : PGs X es t)
    (hn : (assignEach es X.env).length = n := by rfl) (hst : (assignEach es X.env).findIdx? (·.1) = none := by rfl) (hK : X.K = K := by rfl) : PG X (.Tuple es k pos) (gTup K n t) := hK ▸ pg_tup hc h hn hst
end
section
variable {X : Cx}
end
section
variable {X : Cx}
end
section
variable {X : Cx} {m : Str} {apos pos : Pos} {o : Expr} {ta : TE}
end
section
variable {X : Cx}
end
section
variable {X : Cx}
end
end L2
namespace L2
open PySem PySem.W PyProof.Rows
section
variable {X : Cx}
theorem pe_joined1 {v : Expr} {te : TE} {pos : Pos} (h : PE X v te) : PE X (.JoinedStr [v] pos) te := fun pins s σ H Q I hw => wpAny_JoinedStr_one (h pins s σ H Q I hw)
theorem pe_fstr {value : Expr} {te : TE} {pos : Pos} (h : PE X value te) : PE X (.FormattedValue value (-1) none pos) (fun σ H Q => te σ H fun v H1 => ∃ z, v = .str z /\ z.length <= sizeLine /\ Q (.str z) H1) := by
  intro pins s σ H Q I hw
  refine wpAny_FormattedValue_plain (thn (h pins s σ H _ I hw) fun v s1 ⟨x, H1, I1, r1, z, e1, hl, q⟩ => ?_)
  subst e1
  obtain ⟨t, rfl⟩ := r1
  exact wpAny_formatField_str ⟨.str _, H1, I1, ⟨_, rfl⟩, q⟩ ⟨.str _, H1, I1.tok _, ⟨_, rfl⟩, q⟩ hl
def rStarts : V -> List V -> Hp -> VK -> Prop := fun x vs H Q => ∃ (z y : Str), x = .str z /\ vs = [.str y] /\ Q (.bl (Txt.startswith z y)) H
theorem mt_starts : MtR X "str.startswith" rStarts := by
  intro pins s σ H x xs v us Q I rx r h
  obtain ⟨z, y, rfl, rfl, q⟩ := h
  obtain ⟨t, rfl⟩ := rx
  obtain ⟨u, rfl, ru⟩ := Vals.one r
  obtain ⟨t', rfl⟩ := ru
  exact call_gives F.slot_str_startswith (typeIs_str _ _ _) F.entry_str_startswith (F.args_str_startswith_2 _ _) (gives_str_startswith z y t t') ⟨.bl _, H, I, rfl, q⟩
def rSlS : V -> Option Int -> Option Int -> Hp -> VK -> Prop := fun x lo hi H Q => ∃ z, x = .str z /\ z.length <= sizeLine /\ Q (.str (Txt.slice z lo hi)) H
theorem sl_str : SlR X rSlS := by
  intro pins s σ H x v vl vu lo hi sl Q I rx hs pl pu h
  obtain ⟨z, rfl, hz, q⟩ := h
  obtain ⟨t, rfl⟩ := rx
  have key : ∀ (l u : Option (Int × Tok)), s.heap.IsSlice sl l u none -> l.map (·.1) = lo -> u.map (·.1) = hi -> wpAny (model X.prog X.w) X.A (getItem (.str z t) (.ref sl)) (EP X pins σ Q) X.xe s := fun l u hs' e1 e2 => by
    subst e1 e2
    exact wpAny_getItem_str_slice (l := l) (u := u) (st := none) hs' rfl (post_val_or_str ⟨Nat.le_trans (Txt.slice_le z _ _) hz, fun t' k => ⟨.str _, H, I.tok _, ⟨_, rfl⟩, q⟩⟩)
  refine ⟨"str", _, F.slot_str_getitem.lookup, typeIs_str _ _ _, ?_⟩
  obtain ⟨o, h1, h2, h3⟩ := hs
  cases pl with
  | none => cases pu with
    | none => exact key none none ⟨o, h1, h2, h3⟩ rfl rfl
    | int j uj => exact key none (some (j, uj)) ⟨o, h1, h2, h3⟩ rfl rfl
  | int i ui => cases pu with
    | none => exact key (some (i, ui)) none ⟨o, h1, h2, h3⟩ rfl rfl
    | int j uj => exact key (some (i, ui)) (some (j, uj)) ⟨o, h1, h2, h3⟩ rfl rfl
def SplitIs (z y : Str) (ps : List Str) : Prop := ((z.length < y.length /\ ps = [z]) \/ (¬ z.length < y.length /\ Builtin.Str.partsBetween z (Builtin.Str.occurrences z y 0 z.length (z.length + 1)) y.length = ps))
def rSplitG : V -> List V -> Hp -> VK -> Prop := fun x vs H Q => ∃ (z y : Str) (ps : List Str), x = .str z /\ vs = [.str y] /\ Builtin.Str.strKind y = 1 /\ (y.length == 0) = false /\ z.length <= 100000 /\ ps.length <= 100000 /\ SplitIs z y ps /\ ∀ p, H p = none -> Q (.ref p) (upd H p (.lst (ps.map V.str)))
theorem mt_splitG : MtR X "str.split" rSplitG := by
  intro pins s σ H x xs v us Q I rx r h
  obtain ⟨z, y, ps, rfl, rfl, hk, hy, hz, hn', sp, q⟩ := h
  obtain ⟨t, rfl⟩ := rx
  obtain ⟨u, rfl, ru⟩ := Vals.one r
  obtain ⟨t', rfl⟩ := ru
  have zl : z.length <= sizeLine := Nat.le_trans hz (by decide)
  have hn : ps.length <= sizeLine := Nat.le_trans hn' (by decide)
  have fr : H s.heap.objs.size = none := I.hok.fresh (Nat.le_refl _)
  have fin : ∀ (l : List (Str × Tok)) (tk : Nat), l.map (·.1) = ps -> EP X pins σ Q (.ref s.heap.objs.size) { s with heap := s.heap.push { cls := .type "list", data := .seq (strValues l).toArray }, toks := tk } := fun l tk e => by
    have el : (l.map fun p => V.str p.1) = ps.map V.str := by
      have := congrArg (List.map V.str) e
      simpa [List.map_map, Function.comp_def] using this
    have rv := strs_vals l
    rw [el] at rv
    refine ⟨.ref s.heap.objs.size, upd H s.heap.objs.size (.lst (ps.map V.str)), I.laid (fun b o e => Heap.get?_push_of_some _ e) (Nat.le_refl _) ?_, rfl, q _ fr⟩
    exact ⟨by rw [List.length_map]; exact hn, _, 0, rv, Heap.get?_push_size _ rfl⟩
  by_cases h1 : (decide (z.length < y.length) || decide (Builtin.Str.strKind z < Builtin.Str.strKind y)) = true
  · have zy : z.length < y.length := by
      rw [Bool.or_eq_true, decide_eq_true_eq, decide_eq_true_eq, hk] at h1
      rcases h1 with h1 | h1
      · exact h1
      · exact absurd (kind_ge z) (by lia)
    have ez : ps = [z] := by
      rcases sp with ⟨_, e⟩ | ⟨n, _⟩
      · exact e
      · exact absurd zy n
    refine call_meets F.slot_str_split (typeIs_str _ _ _) F.entry_str_split (F.args_str_split_2 _ _) (meets_str_split_cannot_occur z y t t' h1) ?_
    exact fin [(z, t)] _ ez.symm
  · have h1' := Bool.eq_false_iff.mpr h1
    have zy : ¬ z.length < y.length := fun e => h1 (by rw [decide_eq_true e]; rfl)
    have ep : Builtin.Str.partsBetween z (Builtin.Str.occurrences z y 0 z.length (z.length + 1)) y.length = ps := by
      rcases sp with ⟨e, _⟩ | ⟨_, e⟩
      · exact absurd e zy
      · exact e
    cases hf : (Builtin.Str.occurrences z y 0 z.length (z.length + 1)).isEmpty with
    | true =>
      refine call_meets F.slot_str_split (typeIs_str _ _ _) F.entry_str_split (F.args_str_split_2 _ _) (meets_str_split_not_found z y t t' h1' hy hf) ?_
      refine fin [(z, t)] _ ?_
      rw [<- ep, List.isEmpty_iff.mp hf]
      show [z] = [Builtin.Str.strSub z 0 z.length]
      unfold Builtin.Str.strSub
      congr 1
      cases z
      simp [Str.length]
    | false =>
      refine call_meets F.slot_str_split (typeIs_str _ _ _) F.entry_str_split (F.args_str_split_2 _ _) (meets_str_split_sep z y t t' h1' hy hf zl (by rw [ep]; exact hn)) ?_
      rw [strsFrom_eq]
      refine fin (numbered s.toks _) _ ?_
      rw [numbered_texts]
      exact ep
end
end L2
namespace L2
open PySem PySem.W PyProof.Rows
section
variable {prog : Program} {w : World} {A : Around} {E : Value -> Shared -> Prop} {s : Shared}
theorem zip_done2 {k1 k2 : Kd} {z TI TO i1 i2 l1 l2 : Addr} {n : Nat} {xs ys : List Value} {x : Value} {Q : Option Value -> Shared -> Prop} (hh : A.handled = none) (D : ZipNe z TI TO i1 i2) (Z : ZipAt s.heap k1 k2 z TI TO i1 i2 l1 l2 .none n)
    (L1 : ∀ h', (∀ b o, b ≠ z -> b ≠ TO -> b ≠ i1 -> b ≠ i2 -> s.heap.get? b = some o -> h'.get? b = some o) -> SeqIs k1 h' l1 xs) (L2 : ∀ h', (∀ b o, b ≠ z -> b ≠ TO -> b ≠ i1 -> b ≠ i2 -> s.heap.get? b = some o -> h'.get? b = some o) -> SeqIs k2 h' l2 ys) (hx : xs[n]? = some x) (hy : ys.length <= n)
    (q : ∀ h', (∀ c o, c ≠ z -> c ≠ TO -> c ≠ i1 -> c ≠ i2 -> s.heap.get? c = some o -> h'.get? c = some o) -> Q none { s with heap := h' }) : wpAny (model prog w) A (pyNext (.ref z)) Q E s := by
  have ty : s.TypeIs (.ref z) "zip" := ⟨_, Z.zz, rfl⟩
  obtain ⟨zz, ti, ⟨a, b, to⟩, a1, a2⟩ := Z
  unfold pyNext
  refine wpAny_bind (wpAny_attempt (wpAny_callSpecial?_slot (name := Str.ofString "__next__") ty F.slot_zip_next (wpAny_call_entry F.slot_zip_next ty F.entry_zip_next ?_ (F.args_zip_next_1 _))))
  show wpAny _ _ (field (Value.ref z) 2 >>= _) _ _ _
  refine wpAny_bind (wpAny_field zz rfl (x := Value.bool false) rfl (wpAny_bind (wpAny_field zz rfl (x := Value.ref TI) rfl (wpAny_bind (wpAny_seqItems ti rfl (wpAny_bind ?_))))))
  unfold Builtin.SmallTypes.ownedTupleIsFree
  refine wpAny_bind (wpAny_field zz rfl (x := Value.none) rfl (wpAny_pure ?_))
  simp only [if_true]
  refine wpAny_bind (wpAny_rule (wpAny_bind (wpAny_field zz rfl (x := Value.ref TO) rfl (wpAny_bind (wpAny_setField_rec zz (by simp) fun g1 z1 b1 => wpAny_bind ?_)))))
  replace z1 : IsZip g1 z TI TO .ellipsis := z1
  replace b1 : Heap.SameBut z s.heap g1 := b1
  simp only [List.zipIdx_cons, List.zipIdx_nil, List.forIn_cons, List.forIn_nil]
  have K1 : ∀ c o, c ≠ z -> c ≠ TO -> c ≠ i1 -> c ≠ i2 -> s.heap.get? c = some o -> g1.get? c = some o := fun c o h1 _ _ _ e => b1.extBut c o h1 e
  refine wpAny_bind (wpAny_bind (wpAny_onRaise (wpAny_bind (next_seq (s := { s with heap := g1 }) (a1.kept fun o e => b1.extBut _ o D.i1z e) (L1 g1 K1) hx fun g2 j1 b2 => wpAny_pure ?_))))
  replace b2 : Heap.SameBut i1 g1 g2 := b2
  have t2 : IsPair g2 TO a b := b2.extBut _ _ D.TOi1 (b1.extBut _ _ D.TOz to)
  refine wpAny_bind (wpAny_seqItems t2 rfl (wpAny_bind (wpAny_updateSeq_pair t2 fun g3 t3 b3 => ?_)))
  replace t3 : IsPair g3 TO x b := t3
  replace b3 : Heap.SameBut TO g2 g3 := b3
  refine wpAny_bind (wpAny_letGo (wpAny_pure ?_))
  have K3 : ∀ c o, c ≠ z -> c ≠ TO -> c ≠ i1 -> c ≠ i2 -> s.heap.get? c = some o -> g3.get? c = some o := fun c o h1 h2 h3 h4 e => b3.extBut c o h2 (b2.extBut c o h3 (K1 c o h1 h2 h3 h4 e))
  have a3 : ItAt k2 g3 i2 l2 n := a2.kept fun o e => b3.extBut _ o D.TOi2.symm (b2.extBut _ o D.i12.symm (b1.extBut _ o D.i2z e))
  have z3 : IsZip g3 z TI TO .ellipsis := b3.extBut _ _ D.TOz.symm (b2.extBut _ _ D.i1z.symm z1)
  refine wpAny_bind (wpAny_bind (wpAny_onRaise (wpAny_bind (end_seq (s := { s with heap := g3 }) hh a3 (L2 g3 K3) hy fun g4 e b4 he => ?_))))
  replace b4 : Heap.ExtBut i2 g3 g4 := b4
  obtain ⟨oe, hoe, hce⟩ := he
  have z4 : IsZip g4 z TI TO .ellipsis := b4 _ _ D.i2z.symm z3
  have ez : e ≠ z := fun x => by subst x; rw [z4] at hoe; cases hoe; simp at hce
  refine wpAny_setField_rec z4 (by simp) fun g5 _ b5 => ?_
  replace b5 : Heap.SameBut z g4 g5 := b5
  refine wpAny_bind (wpAny_isInstance (T := "StopIteration") (b := true) ⟨oe, b5.extBut _ _ ez hoe, hce⟩ isSubtype_stop (wpAny_pure (q g5 fun c o h1 h2 h3 h4 x => b5.extBut _ _ h1 (b4 _ _ h4 (K3 c o h1 h2 h3 h4 x)))))
end
def ItZs (k1 k2 : Kd) (K : PySem.W.Frag) (a b : Addr) : It :=
  ⟨(ItZ k1 k2 K a b).go, (ItZ k1 k2 K a b).yld, fun i H => ∃ xs ys x, SqK k1 K H a xs /\ SqK k2 K H b ys /\ xs[i]? = some x /\ ys.length <= i⟩
theorem turn_zip2 {P : Program} {w : World} {K : PySem.W.Frag} {elts : List Expr} {x1 : Nat} {tpos : Pos} (k1 k2 : Kd) (a b z TI TO i1 i2 : Addr) (D : ZipNe z TI TO i1 i2) :
    Turn P w K (.Tuple elts x1 tpos) (ItZs k1 k2 K a b) [z, TI, TO, i1, i2] z (fun i h => ZipAt h k1 k2 z TI TO i1 i2 a b .none i) where
  mem := (turn_zip (P := P) (w := w) (K := K) (elts := elts) (x1 := x1) (tpos := tpos) k1 k2 a b z TI TO i1 i2 D).mem
  obj := (turn_zip (P := P) (w := w) (K := K) (elts := elts) (x1 := x1) (tpos := tpos) k1 k2 a b z TI TO i1 i2 D).obj
  keep := (turn_zip (P := P) (w := w) (K := K) (elts := elts) (x1 := x1) (tpos := tpos) k1 k2 a b z TI TO i1 i2 D).keep
  item := (turn_zip (P := P) (w := w) (K := K) (elts := elts) (x1 := x1) (tpos := tpos) k1 k2 a b z TI TO i1 i2 D).item
  done := by
    intro X hP hw hK hc i pins s σ H E I hf st hg
    subst hP hw hK
    obtain ⟨xs, ys, x, hq1, hq2, hx, hy⟩ := hg
    obtain ⟨its1, r1, s1, _⟩ := I.seq hq1
    obtain ⟨its2, r2, s2, _⟩ := I.seq hq2
    obtain ⟨u1, e1, ru1⟩ := r1.get hx
    have nz := hf z (by simp)
    have nO := hf TO (by simp)
    have n1 := hf i1 (by simp)
    have n2 := hf i2 (by simp)
    exact zip_done2 (I.ok.hd hc) D st (fun h' kk => s1.kept fun o e => kk a o (I.seq_ne hq1 nz) (I.seq_ne hq1 nO) (I.seq_ne hq1 n1) (I.seq_ne hq1 n2) e)
      (fun h' kk => s2.kept fun o e => kk b o (I.seq_ne hq2 nz) (I.seq_ne hq2 nO) (I.seq_ne hq2 n1) (I.seq_ne hq2 n2) e) e1 (by rw [<- r2.length]; exact hy)
      fun h' kk => ⟨rfl, I.turnM (t' := s.toks) hf fun c o hc q => by simp at hc; exact kk c o hc.1 hc.2.2.1 hc.2.2.2.1 hc.2.2.2.2 q⟩
  self := (turn_zip (P := P) (w := w) (K := K) (elts := elts) (x1 := x1) (tpos := tpos) k1 k2 a b z TI TO i1 i2 D).self
def iZip2 (k1 k2 : Kd) (K : PySem.W.Frag) (ta : TA) : TI := fun σ H R => ta σ H fun vs H1 => ∃ a b xs ys, vs = [.ref a, .ref b] /\ SqK k1 K H1 a xs /\ SqK k2 K H1 b ys /\ R (ItZs k1 k2 K a b) H1
theorem pi_zip2 {X : Cx} {elts : List Expr} {x1 : Nat} {tpos : Pos} {l m : Expr} {ta : TA} {p pos : Pos} (k1 k2 : Kd) (hg : Gl X "zip") (hm : X.mg "zip" = none) (ha : PA X [l, m] ta)
    (hs : starEach [l, m] X.env = [(false, eval l X.env), (false, eval m X.env)] := by rfl) (hs2 : starEach [m] X.env = [(false, eval m X.env)] := by rfl) :
    PI X (.Tuple elts x1 tpos) (.Call (.Name "zip" p) [l, m] [] pos) (iZip2 k1 k2 X.K ta) := by
  intro pins s σ H R I h
  refine Call_ (ld_blt I hg hm boot_zip' (PyProof.Rows.callWith_type1 (thn (ha pos pins s σ H _ I h) fun us s1 ⟨vs, H1, I1, r1, q1⟩ => ?_) (by rw [hs, hs2]) (by rw [hs2]; rfl)))
  obtain ⟨a, b, xs, ys, rfl, hq1, hq2, q⟩ := q1
  obtain ⟨u, v, rfl, ru, rv⟩ := Vals.two r1
  cases (show u = Value.ref a from ru)
  cases (show v = Value.ref b from rv)
  obtain ⟨its1, _, t1, _⟩ := I1.seq hq1
  obtain ⟨its2, _, t2, _⟩ := I1.seq hq2
  refine call_zip t1 t2 fun h' c1 c2 => wpAny_pyIter_zip (s := { s1 with heap := h' }) c1.zz ?_
  refine ⟨_, [s1.heap.objs.size + 4, s1.heap.objs.size + 2, s1.heap.objs.size + 3, s1.heap.objs.size, s1.heap.objs.size + 1], _, _, H1, rfl, I1.kept (t' := s1.toks) c2,
    turn_zip2 k1 k2 a b _ _ _ _ _ (zipNe s1.heap.objs.size), c1, fun c hc => ?_, q⟩
  have le : s1.heap.objs.size <= c := by
    simp at hc
    rcases hc with rfl | rfl | rfl | rfl | rfl
    · exact Nat.le_add_right _ _
    · exact Nat.le_add_right _ _
    · exact Nat.le_add_right _ _
    · exact Nat.le_refl _
    · exact Nat.le_add_right _ _
  exact I1.fpOk le (I1.hok.fresh le)
theorem for_zip2 {k1 k2 : Kd} {K : PySem.W.Frag} {a b : Addr} {xs ys : List V} {g : TG} {tb : TS} {D : Ends} {σ : St} {H : Hp} (Pv : Nat -> St -> Hp -> Prop) (h0 : Pv 0 σ H) (hl : ∀ i σ H, i <= ys.length -> Pv i σ H -> SqK k1 K H a xs /\ SqK k2 K H b ys) (hle : ys.length < xs.length)
    (hs : ∀ (i : Nat) x y p σ H, xs[i]? = some x -> ys[i]? = some y -> Pv i σ H -> H p = none -> g (.ref p) σ (upd H p (.tup [x, y])) fun σ2 H2 => tb { D with nx := Pv (i + 1), ct := Pv (i + 1), bk := D.nx } σ2 H2) (hd : ∀ σ H, Pv ys.length σ H -> D.nx σ H) :
    ∃ W : Nat -> Nat -> St -> Hp -> Prop, (∃ m, W 0 m σ H) /\ ∀ i m σ H, W i m σ H ->
      ((ItZs k1 k2 K a b).stop i H /\ D.nx σ H) \/ ((ItZs k1 k2 K a b).go i H /\ ∃ N : St -> Hp -> Prop, (∀ σ' H', N σ' H' -> ∃ m', m' < m /\ W (i + 1) m' σ' H') /\ ∀ x H', (ItZs k1 k2 K a b).yld i H x H' -> g x σ H' fun σ2 H2 => tb { D with nx := N, ct := N, bk := D.nx } σ2 H2) := by
  refine ⟨fun i m σ H => m = ys.length - i /\ i <= ys.length /\ Pv i σ H, ⟨ys.length, by simp, Nat.zero_le _, h0⟩, ?_⟩
  rintro i m σ H ⟨rfl, hi, p⟩
  obtain ⟨q1, q2⟩ := hl i σ H hi p
  have hx : i < xs.length := by lia
  by_cases hlt : i < ys.length
  · refine .inr ⟨⟨xs, ys, xs[i], ys[i], q1, q2, by simp [hx], by simp [hlt]⟩, Pv (i + 1), fun σ' H' p' => ⟨ys.length - (i + 1), by lia, rfl, hlt, p'⟩, fun x H' y => ?_⟩
    obtain ⟨r, x, y, hn, rfl, hx, hy, rfl⟩ := y
    exact hs i x y r σ H (hx xs q1) (hy ys q2) p hn
  · have e : i = ys.length := by lia
    subst e
    exact .inl ⟨⟨xs, ys, xs[ys.length], q1, q2, by simp [hx], Nat.le_refl _⟩, hd σ H p⟩
end L2
namespace L2
open PySem PySem.W PyProof.Rows
section
variable {X : Cx}
def CDivB (i j : Int) : Prop := 0 < j /\ j.natAbs.log2 < 9000
theorem op_fdivB : OpR X (binaryOp .FloorDiv) (rI CDivB fun i j => .int (i / j)) := opI fun i j _ _ _ _ _ hc q => by
  refine floordiv_int (by have := hc.1; lia) ?_ (.inl (PyProof.noPylong_of_log2 hc.2))
  rw [Int.fdiv_eq_ediv_of_nonneg _ (Int.le_of_lt hc.1)]
  exact q
theorem all_same {α : Type} [DecidableEq α] (d : α) {l m : List α} {n k : Nat} (hn : n = l.length) (hk : k = m.length) : ((List.range (min n k)).all (fun i => decide (l.getD i d = m.getD i d)) && n == k) = decide (l = m) := by
  subst hn hk
  rw [Bool.eq_iff_iff, Bool.and_eq_true, List.all_eq_true, beq_iff_eq, decide_eq_true_iff]
  constructor
  · rintro ⟨h, e⟩
    refine List.ext_getElem e fun i h1 h2 => ?_
    have := of_decide_eq_true (h i (List.mem_range.mpr (by lia)))
    simpa [h1, h2] using this
  · rintro rfl
    exact ⟨fun i _ => decide_eq_true rfl, rfl⟩
theorem eqV_int (i j : Int) : eqV (.int i) (.int j) = decide (i = j) := by
  unfold eqV
  rw [Bool.eq_iff_iff, beq_iff_eq, decide_eq_true_iff]
def rEqP (K : PySem.W.Frag) : R2 := fun x y H Q => ∃ (a b : Addr) (xs ys : List V) (ks ms : List (List Int)), x = .ref a /\ y = .ref b /\ SqT K H a xs /\ SqT K H b ys /\ Paired (IntsAt H) xs ks /\ Paired (IntsAt H) ys ms /\ Q (.bl (decide (ks = ms))) H
theorem op_eqP (hu : X.A.units + 66 < cLine) : OpR X (compareOp .Eq) (rEqP X.K) := by
  intro pins s σ H x y v u Q I rx ry h
  obtain ⟨a, b, xs, ys, ks, ms, rfl, rfl, ha, hb, pk, pm, q⟩ := h
  cases (show v = Value.ref a from rx)
  cases (show u = Value.ref b from ry)
  obtain ⟨its, r1, t1, _⟩ := I.tuple ha
  obtain ⟨its2, r2, t2, _⟩ := I.tuple hb
  have l1 : its.toArray.size = ks.length := by rw [List.size_toArray, <- r1.length, Paired.length pk]
  have l2 : its2.toArray.size = ms.length := by rw [List.size_toArray, <- r2.length, Paired.length pm]
  refine SeqAt.eq_tupleAt (e := fun i => decide (ks.getD i [] = ms.getD i [])) t1 t2 (by lia) (fun j h1 h2 => ?_) ?_
  · have g1 : j < xs.length := by rw [Paired.length pk]; lia
    have g2 : j < ys.length := by rw [Paired.length pm]; lia
    obtain ⟨u1, e1, q1⟩ := r1.get (i := j) (x := xs[j]) (by simp [g1])
    obtain ⟨u2, e2, q2⟩ := r2.get (i := j) (x := ys[j]) (by simp [g2])
    have w1 : its.toArray[j] = u1 := by have := List.getElem?_eq_some_iff.mp e1; simpa using this.2
    have w2 : its2.toArray[j] = u2 := by have := List.getElem?_eq_some_iff.mp e2; simpa using this.2
    obtain ⟨k1, f1, c1, ec1, hc1⟩ := Paired.at pk (i := j) (a := xs[j]) (by simp [g1])
    obtain ⟨k2, f2, c2, ec2, hc2⟩ := Paired.at pm (i := j) (a := ys[j]) (by simp [g2])
    rw [ec1] at q1
    rw [ec2] at q2
    rw [w1, w2, show u1 = Value.ref c1 from q1, show u2 = Value.ref c2 from q2]
    have d1 : ks.getD j [] = k1 := by rw [List.getD_eq_getElem?_getD, f1]; rfl
    have d2 : ms.getD j [] = k2 := by rw [List.getD_eq_getElem?_getD, f2]; rfl
    show SeqAt.EqAt _ s _ _ (decide (ks.getD j [] = ms.getD j []))
    rw [d1, d2]
    by_cases e : c1 = c2
    · subst e
      rw [hc1] at hc2
      have ek : k1 = k2 := by
        have := Option.some.inj hc2
        injection this with this
        exact List.map_inj_right (fun a b z => by injection z) |>.mp this
      rw [decide_eq_true ek]
      exact SeqAt.EqAt.same _
    · obtain ⟨jt, s1, y1, _⟩ := I.tuple (SqT.of hc1)
      obtain ⟨jt2, s2, y2, _⟩ := I.tuple (SqT.of hc2)
      have z1 : jt.toArray.size = k1.length := by rw [List.size_toArray, <- s1.length, List.length_map]
      have z2 : jt2.toArray.size = k2.length := by rw [List.size_toArray, <- s2.length, List.length_map]
      refine SeqAt.EqAt.of_refs e ?_
      have q := SeqAt.RcAt.tuples (e := fun i => decide (k1.getD i 0 = k2.getD i 0)) (A := X.A.in1) y1 y2 (by have := @in1_units X.A; lia) (fun i h1 h2 => ?_)
      · rw [all_same 0 z1 z2] at q
        exact q
      · have i1 : i < k1.length := by lia
        have i2 : i < k2.length := by lia
        obtain ⟨v1, e1, p1⟩ := s1.get (i := i) (x := .int k1[i]) (by simp [i1])
        obtain ⟨v2, e2, p2⟩ := s2.get (i := i) (x := .int k2[i]) (by simp [i2])
        have w1 : jt.toArray[i] = v1 := by have := List.getElem?_eq_some_iff.mp e1; simpa using this.2
        have w2 : jt2.toArray[i] = v2 := by have := List.getElem?_eq_some_iff.mp e2; simpa using this.2
        rw [w1, w2]
        have := eqAt_V (A := X.A.in1.in1) (s := s) p1 p2 rfl rfl
        rw [eqV_int] at this
        simpa [i1, i2] using this
  · rw [all_same [] l1 l2]
    exact ⟨.bl _, H, I, rfl, q⟩
end
end L2
namespace L2
open PySem PySem.W PyProof.Rows
section
variable {X : Cx} {pos : Pos}
def gTupL (K : PySem.W.Frag) (n : Nat) (t : TGs) : TG := fun v σ H Q => ∃ a xs, v = .ref a /\ SqL K H a xs /\ xs.length = n /\ t xs σ H Q
theorem pg_tupL {es : List Expr} {k : Nat} {t : TGs} {n : Nat} (hc : X.calm = true) (h : PGs X es t)
    (hn : (assignEach es X.env).length = n := by rfl) (hst : (assignEach es X.env).findIdx? (·.1) = none := by rfl) : PG X (.Tuple es k pos) (gTupL X.K n t) := by
  intro pins s σ H v u Q I r hw
  obtain ⟨a, xs, e1, hq, hl, hw⟩ := hw
  subst e1
  cases r
  obtain ⟨its, rv, ht, hz⟩ := I.list hq
  rw [assign_Tuple]
  refine wpAny_bind (wpAny_standAt ?_)
  unfold unpack
  rw [show (assignEach es X.env).length = its.toArray.size by simp [hn, <- hl, rv.length], hst]
  refine wpAny_bind (wpAny_holding (PySem.W.kun_itemsOf (I.ok.hd hc) ht.isList fun h' hx => ?_))
  have I1 : Inv X pins σ H { s with heap := h' } := I.kept (t' := s.toks) fun b o e => hx b o (Nat.ne_of_lt (Heap.lt_size e)) e
  exact h pins _ σ H xs _ Q I1 (by simpa using rv) hw
end
end L2
namespace My
open PySem L2
def top (i : Nat) : Stmt := PySem.Challenge.pw_manycounts_k28_whole_one_tuple.main.body.getD i (.Pass ⟨0, 0, 0, 0⟩)
abbrev sGath : Stmt := top 2
abbrev sSumOf : Stmt := top 3
abbrev sProd : Stmt := top 4
abbrev sToPow : Stmt := top 5
abbrev sExch : Stmt := top 6
abbrev sWorthAt : Stmt := top 7
abbrev sPow : Stmt := top 8
abbrev sPText : Stmt := top 17
abbrev sPwText : Stmt := top 18
abbrev sRPoly : Stmt := top 19
abbrev sRTerm : Stmt := top 20
abbrev sRTimes : Stmt := top 21
abbrev sRPower : Stmt := top 22
abbrev sRAbove : Stmt := top 23
abbrev sAt : Stmt := top 25
abbrev sDigit : Stmt := top 26
abbrev sAny : Stmt := top 27
abbrev sTerm : Stmt := top 28
abbrev sThree : Stmt := top 29
abbrev sTurned : Stmt := top 30
abbrev sTiny : Stmt := top 31
abbrev sParts : Stmt := top 32
abbrev sProducts : Stmt := top 33
abbrev sLaw : Stmt := top 34
abbrev T3 := Int × Int × Int
def k3 (t : T3) : Int × Int := (t.1, t.2.1)
def coef (ts : List T3) (k : Int × Int) : Int := ((ts.filter fun t => decide (k3 t = k)).map (·.2.2)).sum
theorem coef_cons (t : T3) (ts : List T3) (k : Int × Int) : coef (t :: ts) k = (if k3 t = k then t.2.2 else 0) + coef ts k := by
  unfold coef
  by_cases h : k3 t = k
  · rw [List.filter_cons_of_pos (by simpa using h), if_pos h, List.map_cons, List.sum_cons]
  · rw [List.filter_cons_of_neg (by simpa using h), if_neg h, Int.zero_add]
theorem coef_app (a b : List T3) (k : Int × Int) : coef (a ++ b) k = coef a k + coef b k := by
  induction a with
  | nil => show coef b k = 0 + coef b k; lia
  | cons t a ih => rw [List.cons_append, coef_cons, coef_cons, ih]; lia
theorem coef_perm {a b : List T3} (h : a.Perm b) (k : Int × Int) : coef a k = coef b k := by
  induction h with
  | nil => rfl
  | cons x _ ih => rw [coef_cons, coef_cons, ih]
  | swap x y l => rw [coef_cons, coef_cons, coef_cons, coef_cons]; lia
  | trans _ _ ih1 ih2 => exact ih1.trans ih2
theorem coef_zero {ts : List T3} {k : Int × Int} (h : ∀ t ∈ ts, k3 t ≠ k) : coef ts k = 0 := by
  induction ts with
  | nil => rfl
  | cons t ts ih =>
    rw [coef_cons, if_neg (h t (List.mem_cons_self ..)), ih fun u hu => h u (List.mem_cons_of_mem _ hu)]
    lia
def keyLt (a b : T3) : Prop := a.1 < b.1 \/ (a.1 = b.1 /\ a.2.1 < b.2.1)
structure PolyIs (ts L : List T3) : Prop where
  up : L.Pairwise keyLt
  mem : ∀ t, t ∈ L ↔ t.2.2 ≠ 0 /\ t.2.2 = coef ts (k3 t)
theorem sorted_ext : ∀ {L M : List T3}, L.Pairwise keyLt -> M.Pairwise keyLt -> (∀ t, t ∈ L ↔ t ∈ M) -> L = M
  | [], [], _, _, _ => rfl
  | [], b :: M, _, _, h => absurd ((h b).mpr (List.mem_cons_self ..)) (by simp)
  | a :: L, [], _, _, h => absurd ((h a).mp (List.mem_cons_self ..)) (by simp)
  | a :: L, b :: M, h1, h2, h => by
    obtain ⟨p1, q1⟩ := List.pairwise_cons.mp h1
    obtain ⟨p2, q2⟩ := List.pairwise_cons.mp h2
    have e : a = b := by
      rcases List.mem_cons.mp ((h a).mp (List.mem_cons_self ..)) with e | e
      · exact e
      · rcases List.mem_cons.mp ((h b).mpr (List.mem_cons_self ..)) with e' | e'
        · exact e'.symm
        · have x := p2 a e
          have y := p1 b e'
          unfold keyLt at x y
          lia
    subst e
    rw [sorted_ext q1 q2 fun t => ⟨fun ht => ?_, fun ht => ?_⟩]
    · rcases List.mem_cons.mp ((h t).mp (List.mem_cons_of_mem _ ht)) with e | e
      · have x := p1 t ht
        rw [e] at x
        unfold keyLt at x
        lia
      · exact e
    · rcases List.mem_cons.mp ((h t).mpr (List.mem_cons_of_mem _ ht)) with e | e
      · have x := p2 t ht
        rw [e] at x
        unfold keyLt at x
        lia
      · exact e
theorem PolyIs.uniq {ts us L M : List T3} (h1 : PolyIs ts L) (h2 : PolyIs us M) (h : ∀ k, coef ts k = coef us k) : L = M :=
  sorted_ext h1.up h2.up fun t => by rw [h1.mem, h2.mem, h]
def kk (k : Int × Int) : List Key := [.inl k.1, .inl k.2]
theorem kk_inj {a b : Int × Int} (h : kk a = kk b) : a = b := by
  unfold kk at h
  simp only [List.cons.injEq, Sum.inl.injEq, and_true] at h
  exact Prod.ext h.1 h.2
structure TabIs (ts : List T3) (kvs : TTab) : Prop where
  nd : (kvs.map (·.1)).Nodup
  val : ∀ p ∈ kvs, ∃ k, p = (kk k, V.int (coef ts k))
  has : ∀ t ∈ ts, kk (k3 t) ∈ kvs.map (·.1)
  len : kvs.length <= ts.length
theorem TabIs.nil : TabIs [] [] := ⟨by simp, (fun _ h => nomatch h), (fun _ h => nomatch h), Nat.le_refl _⟩
theorem valV_mem {kvs : TTab} {k : List Key} {v : V} (h : valV kvs k = some v) : (k, v) ∈ kvs := by
  unfold valV at h
  obtain ⟨p, hp, rfl⟩ := Option.map_eq_some_iff.mp h
  have h1 := List.mem_of_find?_eq_some hp
  have h2 := List.find?_some hp
  have : p.1 = k := by simpa using h2
  rw [<- this]
  exact h1
theorem valV_none {kvs : TTab} {k : List Key} (h : valV kvs k = none) : k ∉ kvs.map (·.1) := by
  unfold valV at h
  rw [Option.map_eq_none_iff] at h
  intro hm
  obtain ⟨p, hp, e⟩ := List.mem_map.mp hm
  have := List.find?_eq_none.mp h p hp
  exact this (by simpa using e)
theorem TabIs.at {ts : List T3} {kvs : TTab} (h : TabIs ts kvs) (k : Int × Int) : (valV kvs (kk k)).getD (.int 0) = .int (coef ts k) := by
  cases e : valV kvs (kk k) with
  | some v =>
    obtain ⟨k', e'⟩ := h.val _ (valV_mem e)
    injection e' with e1 e2
    rw [kk_inj e1, e2]
    rfl
  | none =>
    have := valV_none e
    rw [coef_zero fun t ht z => this (by rw [<- z]; exact h.has t ht)]
    rfl
theorem TabIs.put {ts : List T3} {kvs : TTab} (h : TabIs ts kvs) (t : T3) : TabIs (ts ++ [t]) (putK kvs (kk (k3 t)) (.int (coef ts (k3 t) + t.2.2))) := by
  have c1 : coef (ts ++ [t]) (k3 t) = coef ts (k3 t) + t.2.2 := by
    rw [coef_app, coef_cons, if_pos rfl]
    show _ + (_ + 0) = _
    lia
  have c2 : ∀ k, k3 t ≠ k -> coef (ts ++ [t]) k = coef ts k := fun k hk => by
    rw [coef_app, coef_cons, if_neg hk]
    show _ + (0 + 0) = _
    lia
  refine ⟨?_, ?_, ?_, ?_⟩
  · unfold putK
    split
    · rw [List.map_map]
      have : ((fun x : List Key × V => x.1) ∘ fun kv : List Key × V => if kv.1 = kk (k3 t) then (kv.1, V.int (coef ts (k3 t) + t.2.2)) else kv) = fun x => x.1 := by
        funext p
        show (if p.1 = kk (k3 t) then (p.1, _) else p).1 = p.1
        split <;> rfl
      rw [this]
      exact h.nd
    · rename_i hn
      rw [List.map_append, List.nodup_append]
      refine ⟨h.nd, by simp, fun a ha b hb => ?_⟩
      have : b = kk (k3 t) := by simpa using hb
      subst this
      intro e
      subst e
      apply hn
      obtain ⟨p, hp, e⟩ := List.mem_map.mp ha
      exact List.any_eq_true.mpr ⟨p, hp, by simpa using e⟩
  · intro p hp
    unfold putK at hp
    split at hp
    · obtain ⟨q, hq, rfl⟩ := List.mem_map.mp hp
      obtain ⟨k, e⟩ := h.val q hq
      by_cases c : q.1 = kk (k3 t)
      · rw [if_pos c]
        exact ⟨k3 t, by rw [c, c1]⟩
      · rw [if_neg c]
        refine ⟨k, ?_⟩
        rw [e, c2 k fun z => c (by rw [e, z])]
    · rename_i hn
      rcases List.mem_append.mp hp with hp | hp
      · obtain ⟨k, e⟩ := h.val p hp
        refine ⟨k, ?_⟩
        rw [e, c2 k fun z => hn (List.any_eq_true.mpr ⟨p, hp, by rw [e, z]; simp⟩)]
      · have : p = (kk (k3 t), V.int (coef ts (k3 t) + t.2.2)) := by simpa using hp
        exact ⟨k3 t, by rw [this, c1]⟩
  · have keep : ∀ x ∈ kvs.map (·.1), x ∈ (putK kvs (kk (k3 t)) (V.int (coef ts (k3 t) + t.2.2))).map (·.1) := by
      intro x hx
      unfold putK
      split
      · obtain ⟨p, hp, rfl⟩ := List.mem_map.mp hx
        refine List.mem_map.mpr ⟨_, List.mem_map.mpr ⟨p, hp, rfl⟩, ?_⟩
        show (if p.1 = kk (k3 t) then (p.1, _) else p).1 = p.1
        split <;> rfl
      · rw [List.map_append]
        exact List.mem_append_left _ hx
    intro u hu
    rcases List.mem_append.mp hu with hu | hu
    · exact keep _ (h.has u hu)
    · have : u = t := by simpa using hu
      subst this
      unfold putK
      split
      · rename_i hy
        obtain ⟨p, hp, e⟩ := List.any_eq_true.mp hy
        have e' : p.1 = kk (k3 u) := by simpa using e
        refine List.mem_map.mpr ⟨_, List.mem_map.mpr ⟨p, hp, rfl⟩, ?_⟩
        show (if p.1 = kk (k3 u) then (p.1, _) else p).1 = _
        rw [if_pos e', e']
      · rw [List.map_append]
        exact List.mem_append_right _ (by simp)
  · have := length_putK kvs (kk (k3 t)) (V.int (coef ts (k3 t) + t.2.2))
    have := h.len
    rw [List.length_append]
    show _ <= _ + 1
    lia
def selP (p : List Key × V) : Option T3 := match p with
  | ([.inl i, .inl j], .int n) => if n = 0 then none else some (i, j, n)
  | _ => none
def sel (kvs : TTab) : List T3 := kvs.filterMap selP
theorem selP_kk (k : Int × Int) (n : Int) : selP (kk k, .int n) = if n = 0 then none else some (k.1, k.2, n) := rfl
theorem sel_mem {ts : List T3} {kvs : TTab} (h : TabIs ts kvs) (t : T3) : t ∈ sel kvs ↔ t.2.2 ≠ 0 /\ t.2.2 = coef ts (k3 t) := by
  unfold sel
  rw [List.mem_filterMap]
  constructor
  · rintro ⟨p, hp, e⟩
    obtain ⟨k, rfl⟩ := h.val p hp
    rw [selP_kk] at e
    by_cases c : coef ts k = 0
    · rw [if_pos c] at e; cases e
    · rw [if_neg c] at e
      cases e
      exact ⟨c, rfl⟩
  · rintro ⟨c, e⟩
    have : ∃ u ∈ ts, k3 u = k3 t := by
      refine Classical.byContradiction fun hn => c ?_
      rw [e]
      exact coef_zero fun u hu z => hn ⟨u, hu, z⟩
    obtain ⟨u, hu, eu⟩ := this
    obtain ⟨p, hp, e2⟩ := List.mem_map.mp (h.has u hu)
    obtain ⟨k, rfl⟩ := h.val p hp
    have ek : k = k3 t := by rw [<- eu]; exact kk_inj e2
    refine ⟨_, hp, ?_⟩
    rw [selP_kk, ek, <- e, if_neg c]
    rfl
theorem sel_keys {ts : List T3} {kvs : TTab} (h : TabIs ts kvs) : ((sel kvs).map k3).Nodup := by
  have hv := h.val
  have hn := h.nd
  clear h
  induction kvs with
  | nil => simp [sel]
  | cons p kvs ih =>
    rw [List.map_cons, List.nodup_cons] at hn
    have ih' := ih (fun q hq => hv q (List.mem_cons_of_mem _ hq)) hn.2
    obtain ⟨k, rfl⟩ := hv p (List.mem_cons_self ..)
    unfold sel at ih' ⊢
    by_cases c : coef ts k = 0
    · rw [List.filterMap_cons_none (by rw [selP_kk, if_pos c])]
      exact ih'
    · rw [List.filterMap_cons_some (by rw [selP_kk, if_neg c]), List.map_cons, List.nodup_cons]
      refine ⟨fun hm => hn.1 ?_, ih'⟩
      obtain ⟨t, ht, e⟩ := List.mem_map.mp hm
      obtain ⟨q, hq, eq⟩ := List.mem_filterMap.mp ht
      obtain ⟨k', rfl⟩ := hv q (List.mem_cons_of_mem _ hq)
      rw [selP_kk] at eq
      by_cases c' : coef ts k' = 0
      · rw [if_pos c'] at eq; cases eq
      · rw [if_neg c'] at eq
        cases eq
        have : k' = k := e
        subst this
        exact List.mem_map.mpr ⟨_, hq, rfl⟩
theorem sel_len {ts : List T3} {kvs : TTab} (h : TabIs ts kvs) : (sel kvs).length <= ts.length := Nat.le_trans (List.length_filterMap_le ..) h.len
def l3 (t : T3) : List Int := [t.1, t.2.1, t.2.2]
def u3 (l : List Int) : T3 := (l.getD 0 0, l.getD 1 0, l.getD 2 0)
theorem u3_l3 (t : T3) : u3 (l3 t) = t := rfl
theorem le_key {a b : T3} (h : LexLe (l3 a) (l3 b)) (ne : k3 a ≠ k3 b) : keyLt a b := by
  unfold LexLe l3 at h
  rw [HT.lexLt_cons] at h
  unfold keyLt
  by_cases e : b.1 = a.1
  · rw [if_pos e, HT.lexLt_cons] at h
    by_cases e2 : b.2.1 = a.2.1
    · exact absurd (show (a.1, a.2.1) = (b.1, b.2.1) by rw [e, e2]) ne
    · rw [if_neg e2] at h
      have := of_decide_eq_false h
      exact .inr ⟨e.symm, by lia⟩
  · rw [if_neg e] at h
    have := of_decide_eq_false h
    exact .inl (by lia)
theorem poly_sorted {ts : List T3} {kvs : TTab} (h : TabIs ts kvs) {kss : List (List Int)} (hp : kss.Perm ((sel kvs).map l3)) (hs : kss.Pairwise LexLe) : ∃ L, kss = L.map l3 /\ PolyIs ts L /\ L.length <= ts.length := by
  have e1 : kss.map u3 |>.map l3 |> (· = kss) := by
    rw [List.map_map]
    have : ∀ x ∈ kss, (l3 ∘ u3) x = x := fun x hx => by
      obtain ⟨t, _, rfl⟩ := List.mem_map.mp (hp.mem_iff.mp hx)
      show l3 (u3 (l3 t)) = l3 t
      rw [u3_l3]
    exact (List.map_congr_left this).trans (List.map_id _)
  have pm : (kss.map u3).Perm (sel kvs) := by
    have := hp.map u3
    rw [List.map_map] at this
    have e2 : (sel kvs).map (u3 ∘ l3) = sel kvs := (List.map_congr_left fun t _ => u3_l3 t).trans (List.map_id _)
    rw [e2] at this
    exact this
  refine ⟨kss.map u3, e1.symm, ⟨?_, fun t => by rw [pm.mem_iff, sel_mem h]⟩, by rw [pm.length_eq]; exact sel_len h⟩
  have nd : ((kss.map u3).map k3).Nodup := (pm.map k3).nodup_iff.mpr (sel_keys h)
  have nd2 : (kss.map u3).Pairwise fun a b => k3 a ≠ k3 b := List.pairwise_map.mp nd
  have s2 : (kss.map u3).Pairwise fun a b => LexLe (l3 a) (l3 b) := by
    rw [<- e1] at hs
    exact List.pairwise_map.mp hs
  exact (s2.and nd2).imp fun ⟨x, y⟩ => le_key x y
def TermAt (H : Hp) (v : V) (t : T3) : Prop := ∃ a, v = .ref a /\ H a = some (.tup [.int t.1, .int t.2.1, .int t.2.2])
theorem TermAt.same {H H' : Hp} {v : V} {t : T3} (h : TermAt H v t) (e : Same H H') : TermAt H' v t := let ⟨a, h1, h2⟩ := h; ⟨a, h1, e _ _ h2⟩
theorem terms_same {H H' : Hp} {xs : List V} {ts : List T3} (h : Paired (TermAt H) xs ts) (e : Same H H') : Paired (TermAt H') xs ts := L2.Paired.mapP h fun _ _ q => q.same e
theorem Same.put {H H2 : Hp} {p : Addr} {o : HO} (s : Same H H2) (h : H p = none) : Same H (upd H2 p o) := fun b u e => by rw [upd_ne (ne_of_none e h)]; exact s b u e
structure PolyAt (H : Hp) (v : V) (L : List T3) : Prop where
  ex : ∃ c rs, v = .ref c /\ H c = some (.tup rs) /\ Paired (TermAt H) rs L
theorem PolyAt.same {H H' : Hp} {v : V} {L : List T3} (h : PolyAt H v L) (e : Same H H') : PolyAt H' v L := by
  obtain ⟨c, rs, h1, h2, h3⟩ := h.ex
  exact ⟨c, rs, h1, e _ _ h2, terms_same h3 e⟩
theorem same_term {K : W.Frag} {H : Hp} {a b : Addr} {t : T3} (h1 : H a = some (.tup [.int t.1, .int t.2.1, .int t.2.2])) (h2 : H b = some (.tup [.int t.1, .int t.2.1, .int t.2.2])) : SameD K H 1 (.ref a) (.ref b) := by
  refine .tup (SqT.of h1) (SqT.of h2) rfl fun i u v e1 e2 => ?_
  rw [e1] at e2
  cases e2
  match i with
  | 0 => simp at e1; rw [<- e1]; exact .flat rfl
  | 1 => simp at e1; rw [<- e1]; exact .flat rfl
  | 2 => simp at e1; rw [<- e1]; exact .flat rfl
  | j + 3 => simp at e1
theorem same_poly {K : W.Frag} {H : Hp} {v u : V} {L : List T3} (h1 : PolyAt H v L) (h2 : PolyAt H u L) {Q : VK} {out : Bool} (q : Q (.bl out) H) : rSame K out v u H Q := by
  obtain ⟨c, rs, rfl, c1, t1⟩ := h1.ex
  obtain ⟨c', rs', rfl, c2, t2⟩ := h2.ex
  have l1 := Paired.length t1
  have l2 := Paired.length t2
  refine ⟨c, c', _, _, 1, rfl, rfl, .inl ⟨SqT.of c1, SqT.of c2⟩, by omega, by decide, fun j x y f1 f2 => ?_, q⟩
  obtain ⟨p1, g1, a1, rfl, b1⟩ := Paired.at t1 f1
  obtain ⟨p2, g2, a2, rfl, b2⟩ := Paired.at t2 f2
  rw [g1] at g2
  cases g2
  exact same_term b1 b2
structure TxP (mg : Str -> Option Value) : Prop where
  isi : mg "isinstance" = none
  int : mg "int" = none
  bool : mg "bool" = none
  len : mg "len" = none
  tuple : mg "tuple" = none
  list : mg "list" = none
  range : mg "range" = none
  sorted : mg "sorted" = none
theorem boot_isi : bootBuiltins "isinstance" = some (.builtin "isinstance") := by first | rfl | decide +kernel
theorem boot_int' : bootBuiltins "int" = some (.type "int") := by first | rfl | decide +kernel
theorem boot_tuple' : bootBuiltins "tuple" = some (.type "tuple") := by first | rfl | decide +kernel
theorem boot_sorted' : bootBuiltins "sorted" = some (.builtin "sorted") := by first | rfl | decide +kernel
theorem boot_sum' : bootBuiltins "sum" = some (.builtin "sum") := by first | rfl | decide +kernel
theorem key2 {H : Hp} {b : Addr} {k : Int × Int} (h : H b = some (.tup ((kk k).map kV))) : H b = some (.tup [.int k.1, .int k.2]) := h
def TermK (K : W.Frag) (H : Hp) (v : V) (t : T3) : Prop := ∃ a, v = .ref a /\ SqT K H a [.int t.1, .int t.2.1, .int t.2.2]
theorem TermAt.K {K : W.Frag} {H : Hp} {v : V} {t : T3} (h : TermAt H v t) : TermK K H v t := let ⟨a, h1, h2⟩ := h; ⟨a, h1, SqT.of h2⟩
theorem TermK.same {K : W.Frag} {H H' : Hp} {v : V} {t : T3} (h : TermK K H v t) (e : Same H H') : TermK K H' v t := let ⟨a, h1, h2⟩ := h; ⟨a, h1, sqT e h2⟩
theorem termsK {K : W.Frag} {H : Hp} {xs : List V} {ts : List T3} (h : Paired (TermAt H) xs ts) : Paired (TermK K H) xs ts := L2.Paired.mapP h fun _ _ q => q.K
theorem termsK_same {K : W.Frag} {H H' : Hp} {xs : List V} {ts : List T3} (h : Paired (TermK K H) xs ts) (e : Same H H') : Paired (TermK K H') xs ts := L2.Paired.mapP h fun _ _ q => q.same e
structure PolyK (K : W.Frag) (H : Hp) (v : V) (L : List T3) : Prop where
  ex : ∃ c rs, v = .ref c /\ SqT K H c rs /\ Paired (TermK K H) rs L
theorem PolyAt.K {K : W.Frag} {H : Hp} {v : V} {L : List T3} (h : PolyAt H v L) : PolyK K H v L := by
  obtain ⟨c, rs, h1, h2, h3⟩ := h.ex
  exact ⟨c, rs, h1, SqT.of h2, termsK h3⟩
theorem PolyK.same {K : W.Frag} {H H' : Hp} {v : V} {L : List T3} (h : PolyK K H v L) (e : Same H H') : PolyK K H' v L := by
  obtain ⟨c, rs, h1, h2, h3⟩ := h.ex
  exact ⟨c, rs, h1, sqT e h2, termsK_same h3 e⟩
theorem same_termK {K : W.Frag} {H : Hp} {a b : Addr} {t : T3} (h1 : SqT K H a [.int t.1, .int t.2.1, .int t.2.2]) (h2 : SqT K H b [.int t.1, .int t.2.1, .int t.2.2]) : SameD K H 1 (.ref a) (.ref b) := by
  refine .tup h1 h2 rfl fun i u v e1 e2 => ?_
  rw [e1] at e2
  cases e2
  match i with
  | 0 => simp at e1; rw [<- e1]; exact .flat rfl
  | 1 => simp at e1; rw [<- e1]; exact .flat rfl
  | 2 => simp at e1; rw [<- e1]; exact .flat rfl
  | j + 3 => simp at e1
theorem same_polyK {K : W.Frag} {H : Hp} {v u : V} {L : List T3} (h1 : PolyK K H v L) (h2 : PolyK K H u L) {Q : VK} {out : Bool} (q : Q (.bl out) H) : rSame K out v u H Q := by
  obtain ⟨c, rs, rfl, c1, t1⟩ := h1.ex
  obtain ⟨c', rs', rfl, c2, t2⟩ := h2.ex
  have l1 := Paired.length t1
  have l2 := Paired.length t2
  refine ⟨c, c', _, _, 1, rfl, rfl, .inl ⟨c1, c2⟩, by lia, by decide, fun j x y f1 f2 => ?_, q⟩
  obtain ⟨p1, g1, a1, rfl, b1⟩ := Paired.at t1 f1
  obtain ⟨p2, g2, a2, rfl, b2⟩ := Paired.at t2 f2
  rw [g1] at g2
  cases g2
  exact same_termK b1 b2
theorem natB {n : Nat} (h : n < 100000) : n < sizeLine := Nat.lt_of_lt_of_le h (by decide)
def spGath (K : W.Frag) : Sp := fun vs H Q _ => ∃ (k : Kd) (a : Addr) (rs : List V) (ts : List T3), vs = [.ref a] /\ SqK k K H a rs /\ Paired (TermK K H) rs ts /\ ts.length < 100000 /\
  ∀ v L H', Same H H' -> PolyIs ts L -> L.length <= ts.length -> PolyAt H' v L -> Q v H'
theorem sel_take {kvs : TTab} {i : Nat} {p : List Key × V} (e : kvs[i]? = some p) : sel (kvs.take (i + 1)) = sel (kvs.take i) ++ (selP p).toList := by
  unfold sel
  rw [take_succ_of e, List.filterMap_append]
  congr 1
section
variable {P : Program} {w : World} {K : W.Frag} {mg : Str -> Option Value} {base : Heap}
theorem scGath : FnScope ["terms", "times_of", "i", "j", "times"] ["terms"] (defScope sGath) := ⟨rfl, rfl, rfl, by decide +kernel, rfl, by decide +kernel, by decide +kernel⟩
theorem ndG : (["key", "times"] : List Str).Nodup := by decide +kernel
theorem d_gath (T : TxP mg) (S : Src K mg "gathered" sGath ["terms"]) : Def P w K mg base 1 "gathered" ["terms"] (spGath K) := by
  refine S.def scGath (fun vs H Q E h => ?_) (fun f cdv A outer s H vs Q E hr h => ?_)
  · obtain ⟨_, _, _, _, rfl, _⟩ := h; rfl
  · obtain ⟨k, a, rs, ts, rfl, hq, ht, h64, q⟩ := h
    have rl : rs.length = ts.length := Paired.length ht
    refine ⟨_, pss_cons (ps_set (i := 1) scGath.nd rfl (Or.inl rfl) pe_dnewT)
      (pss_cons (ps_for PassesOwn.never rfl (pi_seqK K k (pv 0)) (pg_tupK K 3 rfl (pgs_cons (pg_name (i := 2) scGath.nd rfl (Or.inl rfl)) (pgs_cons (pg_name (i := 3) scGath.nd rfl (Or.inl rfl)) (pgs_cons (pg_name (i := 4) scGath.nd rfl (Or.inl rfl)) pgs_nil))))
        (pss_one (ps_dput (hu_of hr) (pv 1) (pe_tup (pa_cons (pv 2) (pa_cons (pv 3) pa_nil))) (pe_op op_add (pe_dget2 (hu_of hr) (pv 1) (pe_tup (pa_cons (pv 2) (pa_cons (pv 3) pa_nil))) pe_int ⟨rfl, rfl, rfl, rfl⟩) (pv 4)) rfl)))
      (pss_one (ps_ret (pe_callTy (call_tuple_ofK K) rfl T.tuple boot_tuple' (pa_cons (pe_callB call_sortedG (by rfl) T.sorted boot_sorted' (pa_cons (pe_comp (N' := ["key", "times"]) (fr := [none, none]) (compOk_of (by rfl)) rfl (pi_ditems (pe_bm0 PySem.F.plainAttrs_dict PySem.F.slot_dict_items PySem.F.type_dict_items mt_items (pv 1)))
        (g := gTup K 2 (gCons (gName 0) (gCons (gName 1) gNil))) (fun _ _ _ _ => pg_tupK K 2 rfl (pgs_cons (pg_name (i := 0) ndG rfl (Or.inl rfl) (Or.inr rfl)) (pgs_cons (pg_name (i := 1) ndG rfl (Or.inl rfl) (Or.inr rfl)) pgs_nil)))
        (fun _ _ _ _ => pifs_one (pt_cmpR op_ne (pv 1) pe_int (nomark _)))
        (fun _ _ _ _ => pe_tup (pa_cons (pe_ix (r := rIxT K) (ix_tupK K) (pv 0) pe_int (fun _ _ => rfl)) (pa_cons (pe_ix (r := rIxT K) (ix_tupK K) (pv 0) pe_int (fun _ _ => rfl)) (pa_cons (pv 1) pa_nil))))) pa_nil)) pa_nil))))), ?_⟩
    intro d hd
    have s1 := Same.new (o := HO.dT []) hd
    have hd1 : (upd H d (.dT [])) d = some (.dT []) := upd_same
    generalize upd H d (.dT []) = H1 at s1 hd1 ⊢
    refine ⟨_, rfl, a, rfl, ⟨rs, s1.seqK hq⟩, for_seq (k := k) (K := K) (a := a) (xs := rs) (fun i σ H' => (∃ u v r, σ = [some (.ref a), some (.ref d), u, v, r]) /\ Same H H' /\ ∃ kvs, H' d = some (.dT kvs) /\ TabIs (ts.take i) kvs)
      ⟨⟨_, _, _, rfl⟩, s1, [], hd1, TabIs.nil⟩ (fun i σ H' _ z => z.2.1.seqK hq) ?_ ?_⟩
    · rintro i x σ H2 hx ⟨⟨u, v, r, rfl⟩, sm, kvs, hk, tab⟩
      obtain ⟨t, e1, b, rfl, hb⟩ := Paired.at ht hx
      refine ⟨b, _, rfl, sqT sm hb, rfl, _, _, rfl, _, _, rfl, _, _, rfl, rfl, ?_⟩
      have kl : kvs.length < 100000 := by
        have := tab.len
        rw [List.length_take] at this
        omega
      refine ⟨_, rfl, d, rfl, .inr ⟨_, .inl hk⟩, _, rfl, _, rfl, by show 2 <= sizeLine; decide, fun c hc => ?_⟩
      have s3 := Same.new (o := HO.tup [.int t.1, .int t.2.1]) hc
      have hc3 : (upd H2 c (.tup [.int t.1, .int t.2.1])) c = some (.tup ((kk (k3 t)).map kV)) := upd_same
      have hk3 := s3 _ _ hk
      have sm3 := sm.trans s3
      generalize upd H2 c (.tup [.int t.1, .int t.2.1]) = H3 at s3 hc3 hk3 sm3 ⊢
      refine ⟨_, DGet.t hk3 hc3, ?_⟩
      rw [tab.at]
      refine ⟨_, rfl, _, _, rfl, rfl, _, rfl, _, rfl, _, rfl, by show 2 <= sizeLine; decide, fun c2 hc2 => ?_⟩
      have s4 := Same.new (o := HO.tup [.int t.1, .int t.2.1]) hc2
      have hc4 : (upd H3 c2 (.tup [.int t.1, .int t.2.1])) c2 = some (.tup ((kk (k3 t)).map kV)) := upd_same
      have hk4 := s4 _ _ hk3
      have sm4 := sm3.trans s4
      generalize upd H3 c2 (.tup [.int t.1, .int t.2.1]) = H4 at s4 hc4 hk4 sm4 ⊢
      refine ⟨d, _, rfl, DPut.t hk4 hc4 (natB kl), ⟨_, _, _, rfl⟩, Same.put sm4 hd, _, upd_same, ?_⟩
      rw [take_succ_of e1]
      exact tab.put t
    · rintro σ H2 ⟨⟨u, v, r, rfl⟩, sm, kvs, hk, tab⟩
      rw [rl, List.take_length] at tab
      have kl : kvs.length < 100000 := Nat.lt_of_le_of_lt tab.len h64
      refine ⟨_, rfl, .inr (.inr (.inl ⟨rfl, .inr ⟨_, hk⟩⟩)), d, kvs, rfl, rfl, hk, fun vw hvw => ?_⟩
      have s3 := Same.new (o := viewO vw d) hvw
      refine ⟨vw, d, kvs, rfl, upd_same, s3 _ _ hk, fun o => ?_⟩
      have hf : (upd (upd H2 vw (viewO vw d)) d (.frz o (.dT kvs))) d = some (.frz o (.dT kvs)) := upd_same
      have sm3 : Same H (upd (upd H2 vw (viewO vw d)) d (.frz o (.dT kvs))) := Same.put (sm.trans s3) hd
      generalize upd (upd H2 vw (viewO vw d)) d (.frz o (.dT kvs)) = H3 at hf sm3 ⊢
      refine comp_di (fun σ => ∃ u v, σ = [u, v]) (fun i ys H' => Same H3 H' /\ Paired (TermAt H') ys (sel (kvs.take i))) ⟨_, _, rfl⟩ ⟨Same.refl _, .nil⟩ (natB kl) (fun i ys H' z => z.1 _ _ hf) ?_ ?_
      · rintro i Tp b key vv ys σ H4 N ek hT hb ⟨u, v, rfl⟩ ⟨sm4, hy⟩ hN
        obtain ⟨k2, e2⟩ := tab.val _ (List.mem_of_getElem? ek)
        injection e2 with e3 e4
        subst e3 e4
        have s5 := Same.new (o := HO.tup [.ref b, .int (coef ts k2)]) hT
        have hT5 : (upd H4 Tp (.tup [.ref b, .int (coef ts k2)])) Tp = some (.tup [.ref b, .int (coef ts k2)]) := upd_same
        have hb5 := key2 (s5 _ _ hb)
        have sm5 := sm4.trans s5
        have hy5 := terms_same hy s5
        generalize upd H4 Tp (.tup [.ref b, .int (coef ts k2)]) = H5 at s5 hT5 hb5 sm5 hy5 ⊢
        refine ⟨Tp, _, rfl, SqT.of hT5, rfl, _, _, rfl, _, _, rfl, rfl, ?_⟩
        dsimp only [gName, List.set]
        refine ⟨_, rfl, rfl, _, rfl, ?_⟩
        have e5 := sel_take ek
        rw [selP_kk] at e5
        by_cases c : coef ts k2 = 0
        · rw [decide_eq_true (show V.int (coef ts k2) = V.int 0 by rw [c])]
          rw [if_pos c, Option.toList_none, List.append_nil] at e5
          refine iteF (hN _ _ _ ⟨_, _, rfl⟩ ⟨sm5, ?_⟩ (by omega))
          rw [e5]
          exact hy5
        · rw [decide_eq_false (show ¬ V.int (coef ts k2) = V.int 0 from fun z => c (by injection z))]
          rw [if_neg c, Option.toList_some] at e5
          have j0 : atI ([.int k2.1, .int k2.2] : List V) 0 = some (.int k2.1) := atI_nat (j := 0) rfl
          have j1 : atI ([.int k2.1, .int k2.2] : List V) 1 = some (.int k2.2) := atI_nat (j := 1) rfl
          refine iteT ⟨_, rfl, b, _, _, _, rfl, rfl, SqT.of hb5, j0, _, rfl, b, _, _, _, rfl, rfl, SqT.of hb5, j1, _, rfl, by show 3 <= sizeLine; decide, fun c2 hc2 => ?_⟩
          have s6 := Same.new (o := HO.tup [.int k2.1, .int k2.2, .int (coef ts k2)]) hc2
          refine hN _ _ _ ⟨_, _, rfl⟩ ⟨sm5.trans s6, ?_⟩ (by simp)
          rw [e5]
          exact L2.Paired.snoc (terms_same hy5 s6) ⟨c2, rfl, upd_same⟩
      · rintro ys H4 ⟨sm4, hy⟩ l hl
        rw [List.take_length] at hy
        have s5 := Same.new (o := HO.lst ys) hl
        have hl5 : (upd H4 l (.lst ys)) l = some (.lst ys) := upd_same
        have hy5 := terms_same hy s5
        have sm5 := sm4.trans s5
        generalize upd H4 l (.lst ys) = H5 at s5 hl5 hy5 sm5 ⊢
        have yl : ys.length = (sel kvs).length := Paired.length hy
        have sl := sel_len tab
        have py : Paired (IntsAt H5) ys ((sel kvs).map l3) := by
          have : ∀ {ys : List V} {us : List T3}, Paired (TermAt H5) ys us -> Paired (IntsAt H5) ys (us.map l3) := by
            intro ys us h
            induction h with
            | nil => exact .nil
            | cons r _ ih => exact .cons (let ⟨a, e1, e2⟩ := r; ⟨a, e1, e2⟩) ih
          exact this hy5
        refine ⟨l, ys, _, rfl, SqL.of hl5, by omega, py, fun ks hks => ?_, fun l2 rs' kss' p1 p2 p3 hl2 => ?_⟩
        · obtain ⟨t, _, rfl⟩ := List.mem_map.mp hks
          intro z
          cases z
        · obtain ⟨L, rfl, pL, ll⟩ := poly_sorted tab p2 p3
          have s6 := Same.new (o := HO.lst rs') hl2
          refine ⟨l2, rs', rfl, .inl ⟨SqL.of upd_same, fun c hc => ?_⟩⟩
          have s7 := Same.new (o := HO.tup rs') hc
          have pt : Paired (TermAt H5) rs' L := by
            have : ∀ {rs : List V} {us : List T3}, Paired (IntsAt H5) rs (us.map l3) -> Paired (TermAt H5) rs us := by
              intro rs us
              induction us generalizing rs with
              | nil => intro h; cases h; exact .nil
              | cons t us ih =>
                intro h
                rw [List.map_cons] at h
                cases h with
                | cons r t => exact .cons (let ⟨a, e1, e2⟩ := r; ⟨a, e1, e2⟩) (ih t)
            exact this p1
          exact q _ L _ ((sm3.trans sm5).trans (s6.trans s7)) pL ll ⟨c, rs', rfl, upd_same, terms_same pt (s6.trans s7)⟩
end
theorem nodup_coef : ∀ {U : List T3}, (U.map k3).Nodup -> ∀ t ∈ U, coef U (k3 t) = t.2.2
  | [], _, t, h => nomatch h
  | a :: U, nd, t, h => by
    rw [List.map_cons, List.nodup_cons] at nd
    rw [coef_cons]
    rcases List.mem_cons.mp h with rfl | h
    · rw [if_pos rfl, coef_zero fun u hu e => nd.1 (List.mem_map.mpr ⟨u, hu, e⟩)]
      lia
    · rw [if_neg (fun e => nd.1 (List.mem_map.mpr ⟨t, h, e.symm⟩)), nodup_coef nd.2 t h]
      lia
theorem up_nodup {L : List T3} (h : L.Pairwise keyLt) : (L.map k3).Nodup := by
  refine List.pairwise_map.mpr (h.imp fun {a b} x e => ?_)
  obtain ⟨e1, e2⟩ := Prod.mk.inj (show (a.1, a.2.1) = (b.1, b.2.1) from e)
  unfold keyLt at x
  lia
theorem PolyIs.coef {ts L : List T3} (h : PolyIs ts L) (k : Int × Int) : My.coef L k = My.coef ts k := by
  by_cases c : My.coef ts k = 0
  · rw [c]
    refine coef_zero fun t ht e => ?_
    obtain ⟨a, b⟩ := (h.mem t).mp ht
    rw [e, c] at b
    exact a b
  · have hm : (k.1, k.2, My.coef ts k) ∈ L := (h.mem _).mpr ⟨c, rfl⟩
    exact nodup_coef (up_nodup h.up) _ hm
def sw (t : T3) : T3 := (t.2.1, t.1, t.2.2)
def swk (k : Int × Int) : Int × Int := (k.2, k.1)
theorem coef_sw (U : List T3) (k : Int × Int) : coef (U.map sw) k = coef U (swk k) := by
  induction U with
  | nil => rfl
  | cons t U ih =>
    rw [List.map_cons, coef_cons, coef_cons, ih]
    have : (k3 (sw t) = k) ↔ (k3 t = swk k) := by
      obtain ⟨k1, k2⟩ := k
      show ((t.2.1, t.1) = (k1, k2)) ↔ ((t.1, t.2.1) = (k2, k1))
      rw [Prod.mk.injEq, Prod.mk.injEq]
      exact And.comm
    by_cases c : k3 t = swk k
    · rw [if_pos (this.mpr c), if_pos c]; rfl
    · rw [if_neg (fun z => c (this.mp z)), if_neg c]
def mulT (t u : T3) : T3 := (t.1 + u.1, t.2.1 + u.2.1, t.2.2 * u.2.2)
def prodL (ts us : List T3) : List T3 := ts.flatMap fun t => us.map (mulT t)
theorem prodL_len (ts us : List T3) : (prodL ts us).length = ts.length * us.length := by
  unfold prodL
  induction ts with
  | nil => simp
  | cons t ts ih => rw [List.flatMap_cons, List.length_append, ih, List.length_map, List.length_cons, Nat.add_mul, Nat.one_mul, Nat.add_comm]
theorem terms_put {H : Hp} {l : Addr} {ys zs : List V} {xs : List V} {ts : List T3} (h : Paired (TermAt H) xs ts) (hl : H l = some (.lst ys)) : Paired (TermAt (upd H l (.lst zs))) xs ts := L2.Paired.mapP h fun _ _ ⟨a, h1, h2⟩ => ⟨a, h1, by
  rw [upd_ne (ne_of h2 hl (fun z => nomatch z))]
  exact h2⟩
theorem paired_app {α β : Type} {F : α -> β -> Prop} {l₁ : List α} {l₂ : List β} {m₁ : List α} {m₂ : List β} (h : Paired F l₁ l₂) (h2 : Paired F m₁ m₂) : Paired F (l₁ ++ m₁) (l₂ ++ m₂) := by
  induction h with
  | nil => exact h2
  | cons r _ ih => exact .cons r ih
def spProd (K : W.Frag) : Sp := fun vs H Q _ => ∃ (v u : V) (ts us : List T3), vs = [v, u] /\ PolyK K H v ts /\ PolyK K H u us /\ ts.length * us.length < 100000 /\ us.length < 100000 /\ (∀ t ∈ ts, ∀ r ∈ us, IntMulOk t.2.2 r.2.2) /\
  ∀ x L H', Same H H' -> PolyIs (prodL ts us) L -> L.length <= (prodL ts us).length -> PolyAt H' x L -> Q x H'
def spSumOf (K : W.Frag) : Sp := fun vs H Q _ => ∃ (v u : V) (ts us : List T3), vs = [v, u] /\ PolyK K H v ts /\ PolyK K H u us /\ ts.length + us.length < 100000 /\
  ∀ x L H', Same H H' -> PolyIs (ts ++ us) L -> L.length <= (ts ++ us).length -> PolyAt H' x L -> Q x H'
section
variable {P : Program} {w : World} {K : W.Frag} {mg : Str -> Option Value} {base : Heap}
theorem scProd : FnScope ["one", "other", "terms", "i", "j", "times"] ["one", "other"] (defScope sProd) := ⟨rfl, rfl, rfl, by decide +kernel, rfl, by decide +kernel, by decide +kernel⟩
theorem nd4p : (["term", "i", "j", "times"] : List Str).Nodup := by decide +kernel
theorem d_prod (S : Src K mg "product_of" sProd ["one", "other"]) (DG : Def P w K mg base 1 "gathered" ["terms"] (spGath K)) : Def P w K mg base 2 "product_of" ["one", "other"] (spProd K) := by
  refine S.def scProd (fun vs H Q E h => ?_) (fun f cdv A outer s H vs Q E hr h => ?_)
  · obtain ⟨_, _, _, _, rfl, _⟩ := h; rfl
  · obtain ⟨v, u, ts, us, rfl, pv', pu', hl, hl2, hm, q⟩ := h
    have hr1 : Room 1 _ := hr.mono (by decide)
    obtain ⟨c, rs, rfl, hc, ht⟩ := pv'.ex
    obtain ⟨d, rs2, rfl, hd, ht2⟩ := pu'.ex
    have l1 := Paired.length ht
    have l2 := Paired.length ht2
    refine ⟨_, pss_cons (ps_set (i := 2) scProd.nd rfl (Or.inl rfl) (pe_lst pa_nil))
      (pss_cons (ps_for PassesOwn.never rfl (pi_seqK K .t (pv 0)) (pg_tupK K 3 rfl (pgs_cons (pg_name (i := 3) scProd.nd rfl (Or.inr rfl)) (pgs_cons (pg_name (i := 4) scProd.nd rfl (Or.inr rfl)) (pgs_cons (pg_name (i := 5) scProd.nd rfl (Or.inr rfl)) pgs_nil))))
        (pss_one (ps_expr (pe_bm PySem.F.plainAttrs_list PySem.F.slot_list_extend PySem.F.type_list_extend mt_extend (pv 2) (pa_cons (pe_comp (N' := ["term", "i", "j", "times"]) (fr := [none, some 3, some 4, some 5]) (compOk_of (by rfl)) rfl (pi_seqK K .t (pv 1))
          (fun _ _ _ _ => pg_name (i := 0) nd4p rfl (Or.inl rfl) (Or.inr rfl)) (fun _ _ _ _ => pifs_nil)
          (fun _ _ _ _ => pe_tup (pa_cons (pe_op op_add (pv 1) (pe_ix (r := rIxT K) (ix_tupK K) (pv 0) pe_int (fun _ _ => rfl))) (pa_cons (pe_op op_add (pv 2) (pe_ix (r := rIxT K) (ix_tupK K) (pv 0) pe_int (fun _ _ => rfl))) (pa_cons (pe_op op_mulB (pv 3) (pe_ix (r := rIxT K) (ix_tupK K) (pv 0) pe_int (fun _ _ => rfl))) pa_nil))))) pa_nil)))))
      (pss_one (ps_ret (pe_def DG hr1 rfl (pa_cons (pv 2) pa_nil))))), ?_⟩
    refine ⟨by show 0 <= sizeLine; decide, fun l hlN => ?_⟩
    have s1 := Same.new (o := HO.lst []) hlN
    refine ⟨_, rfl, c, rfl, ⟨rs, sqT s1 hc⟩, for_seq (k := .t) (K := K) (a := c) (xs := rs) (fun i σ H' => (∃ a b e, σ = [some (.ref c), some (.ref d), some (.ref l), a, b, e]) /\ Same H H' /\ ∃ zs, H' l = some (.lst zs) /\ Paired (TermAt H') zs (prodL (ts.take i) us))
      ⟨⟨_, _, _, rfl⟩, s1, [], upd_same, .nil⟩ (fun i σ H' _ z => sqT z.2.1 hc) ?_ ?_⟩
    · rintro i x σ H2 hx ⟨⟨a, b, e, rfl⟩, sm, zs, hz, pz⟩
      obtain ⟨t, et, b1, rfl, hb⟩ := Paired.at ht hx
      have tin := List.mem_of_getElem? et
      refine ⟨b1, _, rfl, sqT sm hb, rfl, _, _, rfl, _, _, rfl, _, _, rfl, rfl, ?_⟩
      dsimp only [List.set]
      refine ⟨_, rfl, .inl ⟨rfl, _, SqL.of hz⟩, _, rfl, d, rfl, ⟨_, sqT sm hd⟩, ?_⟩
      refine comp_seq (k := .t) (a := d) (xs := rs2) (fun σ => ∃ v, σ = [v, some (.int t.1), some (.int t.2.1), some (.int t.2.2)]) (fun j ys H3 => Same H2 H3 /\ Paired (TermAt H3) ys ((us.take j).map (mulT t))) ⟨_, rfl⟩ ⟨Same.refl _, .nil⟩ (natB (by omega)) (fun j ys H3 _ z => sqT z.1 (sqT sm hd)) ?_ ?_
      · rintro j x ys σ H3 N hx3 ⟨u3, rfl⟩ ⟨sm3, py⟩ hN
        obtain ⟨r, er, b3, rfl, hb3⟩ := Paired.at ht2 hx3
        have rin := List.mem_of_getElem? er
        have hb3' := sqT sm3 (sqT sm hb3)
        have i0 : atI ([.int r.1, .int r.2.1, .int r.2.2] : List V) 0 = some (.int r.1) := atI_nat (j := 0) rfl
        have i1 : atI ([.int r.1, .int r.2.1, .int r.2.2] : List V) 1 = some (.int r.2.1) := atI_nat (j := 1) rfl
        have i2 : atI ([.int r.1, .int r.2.1, .int r.2.2] : List V) 2 = some (.int r.2.2) := atI_nat (j := 2) rfl
        dsimp only [gName, List.set]
        refine yesT ?_
        refine ⟨_, rfl, _, rfl, b3, _, _, _, rfl, rfl, hb3', i0, _, _, rfl, rfl, _, rfl, _, rfl, b3, _, _, _, rfl, rfl, hb3', i1, _, _, rfl, rfl, _, rfl, _, rfl, b3, _, _, _, rfl, rfl, hb3', i2, _, _, rfl, rfl, hm t tin r rin, by show 3 <= sizeLine; decide, fun p4 hp4 => ?_⟩
        refine hN _ _ _ ⟨_, rfl⟩ ⟨sm3.trans (Same.new hp4), ?_⟩ (by simp)
        rw [take_succ_of er, List.map_append]
        exact L2.Paired.snoc (terms_same py (Same.new hp4)) ⟨p4, rfl, upd_same⟩
      · rintro ys H3 ⟨sm3, py⟩ p4 hp4
        rw [l2, List.take_length] at py
        have s4 := Same.new (o := HO.lst ys) hp4
        have ex : prodL (ts.take (i + 1)) us = prodL (ts.take i) us ++ us.map (mulT t) := by
          unfold prodL
          rw [take_succ_of et, List.flatMap_append]
          simp
        have ll : (prodL (ts.take (i + 1)) us).length <= ts.length * us.length := by
          rw [prodL_len]
          exact Nat.mul_le_mul_right _ (by rw [List.length_take]; omega)
        rw [ex, List.length_append] at ll
        have z1 := Paired.length pz
        have z2 := Paired.length py
        have hz4 := s4 _ _ (sm3 _ _ hz)
        refine ⟨l, p4, zs, ys, rfl, rfl, hz4, upd_same, Nat.le_of_lt (natB (by omega)), ?_⟩
        refine ⟨⟨_, _, _, rfl⟩, My.Same.put ((sm.trans sm3).trans s4) hlN, zs ++ ys, upd_same, ?_⟩
        rw [ex]
        exact terms_put (paired_app (terms_same pz (sm3.trans s4)) (terms_same py s4)) hz4
    · rintro σ H2 ⟨⟨a, b, e, rfl⟩, sm, zs, hz, pz⟩
      rw [l1, List.take_length] at pz
      refine ⟨_, rfl, .l, l, zs, prodL ts us, rfl, SqL.of hz, termsK pz, by rw [prodL_len]; exact hl, fun x L H3 s3 pi pl pa => ?_⟩
      exact q x L H3 (sm.trans s3) pi pl pa
theorem scSumOf : FnScope ["one", "other"] ["one", "other"] (defScope sSumOf) := ⟨rfl, rfl, rfl, by decide +kernel, rfl, by decide +kernel, by decide +kernel⟩
theorem d_sumof (S : Src K mg "sum_of" sSumOf ["one", "other"]) (DG : Def P w K mg base 1 "gathered" ["terms"] (spGath K)) : Def P w K mg base 2 "sum_of" ["one", "other"] (spSumOf K) := by
  refine S.def scSumOf (fun vs H Q E h => ?_) (fun f cdv A outer s H vs Q E hr h => ?_)
  · obtain ⟨_, _, _, _, rfl, _⟩ := h; rfl
  · obtain ⟨v, u, ts, us, rfl, pv', pu', hl, q⟩ := h
    have hr1 : Room 1 _ := hr.mono (by decide)
    obtain ⟨c, rs, rfl, hc, ht⟩ := pv'.ex
    obtain ⟨d, rs2, rfl, hd, ht2⟩ := pu'.ex
    have l1 := Paired.length ht
    have l2 := Paired.length ht2
    refine ⟨_, pss_one (ps_ret (pe_def DG hr1 rfl (pa_cons (pe_op op_catS (pv 0) (pv 1)) pa_nil))), ?_⟩
    refine ⟨_, rfl, _, rfl, c, d, rs, rs2, rfl, rfl, hc, hd, Nat.le_of_lt (natB (by omega)), fun p H1 s1 hp => ?_⟩
    refine ⟨.t, p, rs ++ rs2, ts ++ us, rfl, hp, paired_app (termsK_same ht s1) (termsK_same ht2 s1), by rw [List.length_append]; exact hl, fun x L H2 s2 pi pl pa => ?_⟩
    exact q x L H2 (s1.trans s2) pi pl pa
end
def Eqv (ts us : List T3) : Prop := ∀ k, coef ts k = coef us k
theorem Eqv.refl (ts : List T3) : Eqv ts ts := fun _ => rfl
theorem PolyIs.eqv {ts L : List T3} (h : PolyIs ts L) : Eqv L ts := fun k => h.coef k
theorem PolyIs.of_eqv {ts us L : List T3} (h : PolyIs ts L) (e : Eqv ts us) : PolyIs us L := ⟨h.up, fun t => by rw [h.mem t, e]⟩
def lin (ts : List T3) (g : Int × Int -> Int) : Int := (ts.map fun t => t.2.2 * g (k3 t)).sum
theorem lin_cons (t : T3) (ts : List T3) (g : Int × Int -> Int) : lin (t :: ts) g = t.2.2 * g (k3 t) + lin ts g := rfl
theorem sum_one (f : Int × Int -> Int) (a : Int × Int) (c : Int) : ∀ K : List (Int × Int), K.Nodup -> (K.map fun k => (if a = k then c else 0) * f k).sum = if a ∈ K then c * f a else 0
  | [], _ => rfl
  | k :: K, nd => by
    obtain ⟨h1, h2⟩ := List.nodup_cons.mp nd
    rw [List.map_cons, List.sum_cons, sum_one f a c K h2]
    by_cases e : a = k
    · subst e
      rw [if_pos rfl, if_neg h1, if_pos List.mem_cons_self]
      lia
    · rw [if_neg e, Int.zero_mul, Int.zero_add]
      by_cases m : a ∈ K
      · rw [if_pos m, if_pos (List.mem_cons_of_mem _ m)]
      · rw [if_neg m, if_neg (fun z => (List.mem_cons.mp z).elim e m)]
theorem sum_add (f g : Int × Int -> Int) : ∀ K : List (Int × Int), (K.map fun k => f k + g k).sum = (K.map f).sum + (K.map g).sum
  | [] => rfl
  | k :: K => by
    rw [List.map_cons, List.sum_cons, sum_add f g K, List.map_cons, List.sum_cons, List.map_cons, List.sum_cons]
    lia
theorem lin_keys (g : Int × Int -> Int) (K : List (Int × Int)) (nd : K.Nodup) : ∀ ts : List T3, (∀ t ∈ ts, k3 t ∈ K) -> lin ts g = (K.map fun k => coef ts k * g k).sum
  | [], _ => by
    have : (K.map fun k => coef [] k * g k) = K.map fun _ => (0 : Int) := List.map_congr_left fun k _ => by show coef [] k * g k = 0; rw [show coef [] k = 0 from rfl, Int.zero_mul]
    rw [this]
    have : ∀ K : List (Int × Int), (K.map fun _ => (0 : Int)).sum = 0 := fun K => by induction K with
      | nil => rfl
      | cons _ _ ih => rw [List.map_cons, List.sum_cons, ih]; rfl
    rw [this]
    rfl
  | t :: ts, h => by
    have ih := lin_keys g K nd ts fun u hu => h u (List.mem_cons_of_mem _ hu)
    have e : (K.map fun k => coef (t :: ts) k * g k) = K.map fun k => (if k3 t = k then t.2.2 else 0) * g k + coef ts k * g k := List.map_congr_left fun k _ => by rw [coef_cons, Int.add_mul]
    rw [lin_cons, ih, e, sum_add (fun k => (if k3 t = k then t.2.2 else 0) * g k), sum_one g (k3 t) t.2.2 K nd, if_pos (h t List.mem_cons_self)]
def ddup : List (Int × Int) -> List (Int × Int)
  | [] => []
  | a :: l => if a ∈ l then ddup l else a :: ddup l
theorem ddup_mem : ∀ {l : List (Int × Int)} {a : Int × Int}, a ∈ ddup l ↔ a ∈ l
  | [], _ => Iff.rfl
  | b :: l, a => by
    unfold ddup
    by_cases h : b ∈ l
    · rw [if_pos h, ddup_mem, List.mem_cons]
      exact ⟨.inr, fun z => z.elim (fun e => e ▸ h) id⟩
    · rw [if_neg h, List.mem_cons, List.mem_cons, ddup_mem]
theorem ddup_nd : ∀ l : List (Int × Int), (ddup l).Nodup
  | [] => .nil
  | b :: l => by
    unfold ddup
    by_cases h : b ∈ l
    · rw [if_pos h]; exact ddup_nd l
    · rw [if_neg h]; exact List.nodup_cons.mpr ⟨fun z => h (ddup_mem.mp z), ddup_nd l⟩
theorem lin_eqv {ts us : List T3} (h : Eqv ts us) (g : Int × Int -> Int) : lin ts g = lin us g := by
  have a := lin_keys g (ddup ((ts ++ us).map k3)) (ddup_nd _) ts fun t ht => ddup_mem.mpr (List.mem_map_of_mem (List.mem_append_left _ ht))
  have b := lin_keys g (ddup ((ts ++ us).map k3)) (ddup_nd _) us fun t ht => ddup_mem.mpr (List.mem_map_of_mem (List.mem_append_right _ ht))
  rw [a, b]
  congr 1
  exact List.map_congr_left fun k _ => by rw [h k]
def ksub (k : Int × Int) (t : Int × Int) : Int × Int := (k.1 - t.1, k.2 - t.2)
theorem coef_mulT (t : T3) (k : Int × Int) : ∀ us : List T3, coef (us.map (mulT t)) k = t.2.2 * coef us (ksub k (k3 t))
  | [] => by rw [show coef [] (ksub k (k3 t)) = 0 from rfl, Int.mul_zero]; rfl
  | u :: us => by
    rw [List.map_cons, coef_cons, coef_cons, coef_mulT t k us, Int.mul_add]
    congr 1
    have e : k3 (mulT t u) = k ↔ k3 u = ksub k (k3 t) := by
      unfold k3 mulT ksub
      rw [Prod.ext_iff, Prod.ext_iff]
      dsimp only
      lia
    by_cases c : k3 (mulT t u) = k
    · rw [if_pos c, if_pos (e.mp c)]; rfl
    · rw [if_neg c, if_neg (fun z => c (e.mpr z)), Int.mul_zero]
theorem coef_prod (us : List T3) (k : Int × Int) : ∀ ts : List T3, coef (prodL ts us) k = lin ts fun a => coef us (ksub k a)
  | [] => rfl
  | t :: ts => by
    show coef (us.map (mulT t) ++ prodL ts us) k = _
    rw [coef_app, coef_mulT, coef_prod us k ts, lin_cons]
theorem prod_eqv {ts ts' us us' : List T3} (h : Eqv ts ts') (h2 : Eqv us us') : Eqv (prodL ts us) (prodL ts' us') := fun k => by
  rw [coef_prod, coef_prod, lin_eqv h]
  congr 1
  funext a
  exact h2 _
theorem mulT_assoc (a b c : T3) : mulT (mulT a b) c = mulT a (mulT b c) := by
  unfold mulT
  dsimp only
  rw [Int.add_assoc, Int.add_assoc, Int.mul_assoc]
theorem prod_assoc (ts us vs : List T3) : prodL (prodL ts us) vs = prodL ts (prodL us vs) := by
  unfold prodL
  rw [List.flatMap_assoc]
  congr 1
  funext t
  rw [List.flatMap_map, List.map_flatMap]
  congr 1
  funext u
  rw [List.map_map]
  congr 1
  funext v
  exact mulT_assoc t u v
theorem prod_one_l (us : List T3) : prodL [(0, 0, 1)] us = us := by
  unfold prodL
  rw [List.flatMap_cons, List.flatMap_nil, List.append_nil]
  conv => rhs; rw [<- List.map_id us]
  apply List.map_congr_left
  intro u _
  unfold mulT
  simp
def pwL (us : List T3) : Nat -> List T3
  | 0 => [(0, 0, 1)]
  | k + 1 => prodL (pwL us k) us
theorem worth_lin (L : List T3) (g : Int × Int -> Int) (f : T3 -> Int) (h : ∀ t ∈ L, f t = t.2.2 * g (k3 t)) : (L.map f).sum = lin L g := by
  unfold lin
  congr 1
  exact List.map_congr_left h
def xy (x y : Int) (k : Int × Int) : Int := x ^ k.1.toNat * y ^ k.2.toNat
def nrm (ts : List T3) : Nat := (ts.map fun t => t.2.2.natAbs).sum
theorem nrm_cons (t : T3) (ts : List T3) : nrm (t :: ts) = t.2.2.natAbs + nrm ts := rfl
theorem nrm_app (a b : List T3) : nrm (a ++ b) = nrm a + nrm b := by unfold nrm; rw [List.map_append, List.sum_append]
theorem nrm_mem {ts : List T3} {t : T3} (h : t ∈ ts) : t.2.2.natAbs <= nrm ts := by
  induction ts with
  | nil => exact nomatch h
  | cons u ts ih =>
    rw [nrm_cons]
    rcases List.mem_cons.mp h with z | z
    · rw [z]; lia
    · have := ih z; lia
theorem nrm_mulT (t : T3) : ∀ us : List T3, nrm (us.map (mulT t)) = t.2.2.natAbs * nrm us
  | [] => rfl
  | u :: us => by
    rw [List.map_cons, nrm_cons, nrm_cons, nrm_mulT t us, Nat.mul_add]
    congr 1
    exact Int.natAbs_mul _ _
theorem nrm_prod (us : List T3) : ∀ ts : List T3, nrm (prodL ts us) = nrm ts * nrm us
  | [] => by rw [show nrm [] = 0 from rfl, Nat.zero_mul]; rfl
  | t :: ts => by
    show nrm (us.map (mulT t) ++ prodL ts us) = _
    rw [nrm_app, nrm_mulT, nrm_prod us ts, nrm_cons, Nat.add_mul]
theorem sum_le {K : List (Int × Int)} {f g : Int × Int -> Nat} (h : ∀ k, f k <= g k) : (K.map f).sum <= (K.map g).sum := by
  induction K with
  | nil => exact Nat.le_refl _
  | cons k K ih => rw [List.map_cons, List.sum_cons, List.map_cons, List.sum_cons]; have := h k; lia
theorem sum_addN (f g : Int × Int -> Nat) : ∀ K : List (Int × Int), (K.map fun k => f k + g k).sum = (K.map f).sum + (K.map g).sum
  | [] => rfl
  | k :: K => by
    rw [List.map_cons, List.sum_cons, sum_addN f g K, List.map_cons, List.sum_cons, List.map_cons, List.sum_cons]
    lia
theorem sum_oneN (a : Int × Int) (c : Nat) : ∀ K : List (Int × Int), K.Nodup -> (K.map fun k => if a = k then c else 0).sum <= c /\ (a ∉ K -> (K.map fun k => if a = k then c else 0).sum = 0)
  | [], _ => ⟨Nat.zero_le _, fun _ => rfl⟩
  | k :: K, nd => by
    obtain ⟨h1, h2⟩ := List.nodup_cons.mp nd
    obtain ⟨i1, i2⟩ := sum_oneN a c K h2
    rw [List.map_cons, List.sum_cons]
    by_cases e : a = k
    · rw [if_pos e, i2 (by rw [e]; exact h1)]
      exact ⟨Nat.le_refl _, fun z => absurd (by rw [e]; exact List.mem_cons_self) z⟩
    · rw [if_neg e, Nat.zero_add]
      exact ⟨i1, fun z => i2 fun y => z (List.mem_cons_of_mem _ y)⟩
theorem keys_nrm (K : List (Int × Int)) (nd : K.Nodup) : ∀ ts : List T3, (K.map fun k => (coef ts k).natAbs).sum <= nrm ts
  | [] => by
    have : (K.map fun k => (coef [] k).natAbs) = K.map fun _ => 0 := List.map_congr_left fun k _ => rfl
    rw [this]
    have : ∀ K : List (Int × Int), (K.map fun _ => 0).sum = 0 := fun K => by induction K with
      | nil => rfl
      | cons _ _ ih => rw [List.map_cons, List.sum_cons, ih]
    rw [this]
    exact Nat.zero_le _
  | t :: ts => by
    have ih := keys_nrm K nd ts
    have a := sum_le (K := K) (f := fun k => (coef (t :: ts) k).natAbs) (g := fun k => (if k3 t = k then t.2.2.natAbs else 0) + (coef ts k).natAbs) fun k => by
      rw [coef_cons]
      split <;> lia
    rw [sum_addN (fun k => if k3 t = k then t.2.2.natAbs else 0)] at a
    have b := (sum_oneN (k3 t) t.2.2.natAbs K nd).1
    rw [nrm_cons]
    exact Nat.le_trans a (Nat.add_le_add b ih)
theorem PolyIs.nrm {ts L : List T3} (h : PolyIs ts L) : My.nrm L <= My.nrm ts := by
  have a := keys_nrm (L.map k3) (up_nodup h.up) ts
  rw [List.map_map] at a
  have e : (L.map ((fun k => (My.coef ts k).natAbs) ∘ k3)) = L.map fun t => t.2.2.natAbs := List.map_congr_left fun t ht => by
    show (My.coef ts (k3 t)).natAbs = _
    rw [<- ((h.mem t).mp ht).2]
  rw [e] at a
  exact a
def Deg (d : Int) (ts : List T3) : Prop := ∀ t ∈ ts, (0 <= t.1 /\ t.1 <= d) /\ 0 <= t.2.1 /\ t.2.1 <= d
theorem Deg.prod {d e : Int} {ts us : List T3} (h : Deg d ts) (h2 : Deg e us) : Deg (d + e) (prodL ts us) := by
  intro t ht
  obtain ⟨a, ha, hab⟩ := List.mem_flatMap.mp ht
  obtain ⟨b, hb, rfl⟩ := List.mem_map.mp hab
  have x := h a ha
  have y := h2 b hb
  unfold mulT
  dsimp only
  lia
theorem PolyIs.deg {d : Int} {ts L : List T3} (h : PolyIs ts L) (hd : Deg d ts) : Deg d L := by
  intro t ht
  obtain ⟨h1, h2⟩ := (h.mem t).mp ht
  obtain ⟨u, hu, e⟩ : ∃ u ∈ ts, k3 u = k3 t := by
    refine Classical.byContradiction fun z => h1 ?_
    rw [h2]
    exact coef_zero fun u hu e => z ⟨u, hu, e⟩
  have := hd u hu
  have e1 : u.1 = t.1 := congrArg (fun k : Int × Int => k.1) e
  have e2 : u.2.1 = t.2.1 := congrArg (fun k : Int × Int => k.2) e
  rw [e1, e2] at this
  exact this
theorem nat_len {l : List Nat} {M : Nat} (nd : l.Nodup) (h : ∀ i ∈ l, i < M) : l.length <= M := by
  have p : l.Perm ((List.range M).filter fun i => decide (i ∈ l)) := (List.perm_ext_iff_of_nodup nd (List.Pairwise.filter _ List.nodup_range)).mpr fun i => by
    rw [List.mem_filter, List.mem_range, decide_eq_true_iff]
    exact ⟨fun z => ⟨h i z, z⟩, fun z => z.2⟩
  have a := p.length_eq
  have b := List.length_filter_le (fun i => decide (i ∈ l)) (List.range M)
  rw [List.length_range] at b
  lia
theorem deg_len {d : Nat} {L : List T3} (up : L.Pairwise keyLt) (h : Deg d L) : L.length <= (d + 1) * (d + 1) := by
  have nd : (L.map fun t => t.1.toNat * (d + 1) + t.2.1.toNat).Nodup := by
    rw [List.Nodup, List.pairwise_map]
    refine List.Pairwise.imp_of_mem ?_ up
    intro a b ha hb k e
    have x := h a ha
    have y := h b hb
    have a2 : a.2.1.toNat < d + 1 := by lia
    have b2 : b.2.1.toNat < d + 1 := by lia
    have e1 : a.1.toNat = b.1.toNat := by
      have this : (a.1.toNat * (d + 1) + a.2.1.toNat) / (d + 1) = (b.1.toNat * (d + 1) + b.2.1.toNat) / (d + 1) := by rw [e]
      rw [Nat.mul_comm, Nat.mul_add_div (by lia), Nat.div_eq_of_lt a2, Nat.mul_comm b.1.toNat, Nat.mul_add_div (by lia), Nat.div_eq_of_lt b2] at this
      lia
    rw [e1] at e
    unfold keyLt at k
    lia
  have := nat_len nd (M := (d + 1) * (d + 1)) fun i hi => by
    obtain ⟨t, ht, rfl⟩ := List.mem_map.mp hi
    have x := h t ht
    have a1 : t.1.toNat <= d := by lia
    have a2 : t.2.1.toNat < d + 1 := by lia
    have := Nat.mul_le_mul_right (d + 1) a1
    rw [Nat.add_mul, Nat.one_mul]
    lia
  rw [List.length_map] at this
  exact this
open Builtin.Int (intBits)
theorem poly_one : PolyIs [(0, 0, 1)] [(0, 0, 1)] := by
  refine ⟨List.pairwise_singleton _ _, fun t => ?_⟩
  rw [List.mem_singleton]
  constructor
  · rintro rfl
    exact ⟨by decide, by decide⟩
  · rintro ⟨a, b⟩
    rw [coef_cons] at b
    by_cases c : k3 ((0, 0, 1) : T3) = k3 t
    · rw [if_pos c] at b
      obtain ⟨e1, e2⟩ := Prod.mk.inj (show ((0 : Int), (0 : Int)) = (t.1, t.2.1) from c)
      exact Prod.ext e1.symm (Prod.ext e2.symm (by rw [b]; rfl))
    · rw [if_neg c] at b
      exact absurd b a
theorem deg_pw {d : Nat} {ts : List T3} (h : Deg d ts) : ∀ k : Nat, Deg ((d * k : Nat) : Int) (pwL ts k)
  | 0 => by
    intro t ht
    rw [List.mem_singleton.mp ht]
    simp
  | k + 1 => by
    have a := (deg_pw h k).prod h
    have e : (((d * k : Nat) : Int) + (d : Int)) = ((d * (k + 1) : Nat) : Int) := by rw [Nat.mul_succ]; omega
    rw [e] at a
    exact a
theorem nrm_pw (ts : List T3) : ∀ k : Nat, nrm (pwL ts k) = nrm ts ^ k
  | 0 => rfl
  | k + 1 => by
    show nrm (prodL (pwL ts k) ts) = _
    rw [nrm_prod, nrm_pw ts k, Nat.pow_succ]
theorem pow_bd {n j N a : Nat} (h : n <= 2 ^ a) (hj : a * j <= N) : n ^ j < 2 ^ (N + 1) := by
  have h1 : n ^ j <= 2 ^ (a * j) := by
    rw [Nat.pow_mul]
    exact Nat.pow_le_pow_left h j
  have h2 : 2 ^ (a * j) <= 2 ^ N := Nat.pow_le_pow_right (by decide) hj
  have h3 : 2 ^ N < 2 ^ (N + 1) := Nat.pow_lt_pow_right (by decide) (by omega)
  omega
theorem pw_bits {ts L : List T3} {j : Nat} (hn : nrm ts <= 2 ^ 400) (hj : j <= 20) (h : PolyIs (pwL ts j) L) : ∀ t ∈ L, intBits t.2.2 <= 8001 := fun t ht => intBits_le_iff.mpr (by
  have a := nrm_mem ht
  have b := h.nrm
  rw [nrm_pw] at b
  have c := pow_bd (N := 8000) hn (show 400 * j <= 8000 by omega)
  omega)
def spPow (K : W.Frag) : Sp := fun vs H Q _ => ∃ (v : V) (ts : List T3) (k : Int) (d : Nat), vs = [v, .int k] /\ PolyK K H v ts /\ 0 <= k /\ k <= 20 /\ Deg d ts /\ (∀ j : Nat, j < k.toNat -> (d * j + 1) * (d * j + 1) * ts.length < 100000) /\ ts.length < 100000 /\ nrm ts <= 2 ^ 400 /\
  ∀ x L H', Same H H' -> PolyIs (pwL ts k.toNat) L -> PolyK K H' x L -> Q x H'
section
variable {P : Program} {w : World} {K : W.Frag} {mg : Str -> Option Value} {base : Heap}
theorem scPow : FnScope ["poly", "k", "power", "step"] ["poly", "k"] (defScope sToPow) := ⟨rfl, rfl, rfl, by decide +kernel, rfl, by decide +kernel, by decide +kernel⟩
theorem d_topow (T : TxP mg) (S : Src K mg "to_power" sToPow ["poly", "k"]) {oa : Addr} (ho : mg "ONE" = some (.ref oa)) (hk : ∀ H, PolyK K H (.ref oa) [(0, 0, 1)]) (DP : Def P w K mg base 2 "product_of" ["one", "other"] (spProd K)) : Def P w K mg base 3 "to_power" ["poly", "k"] (spPow K) := by
  refine S.def scPow (fun vs H Q E h => ?_) (fun f cdv A outer s H vs Q E hr h => ?_)
  · obtain ⟨_, _, _, _, rfl, _⟩ := h; rfl
  · obtain ⟨v, ts, k, d, rfl, pk, k0, k2, hd, hlen, hts, hn, q⟩ := h
    have hr2 : Room 2 _ := hr.mono (by decide)
    refine ⟨_, pss_cons (ps_set (i := 2) scPow.nd rfl (Or.inl rfl) (pe_glob (v := .ref oa) rfl ho rfl))
      (pss_cons (ps_for PassesOwn.never rfl (pi_range1 rfl T.range (pa_cons (pv 1) pa_nil)) (pg_name (i := 3) scPow.nd rfl (Or.inl rfl))
        (pss_one (ps_set (i := 2) scPow.nd rfl (Or.inl rfl) (pe_def DP hr2 rfl (pa_cons (pv 2) (pa_cons (pv 0) pa_nil))))))
      (pss_one (ps_ret (pv 2)))), ?_⟩
    refine ⟨_, rfl, k, rfl, by omega, by omega, ?_⟩
    refine for_range (lo := 0) (n := k.toNat) (fun j σ H' => (∃ x u L, σ = [some v, some (.int k), some x, u] /\ PolyIs (pwL ts j) L /\ PolyK K H' x L) /\ Same H H') ⟨⟨_, none, _, rfl, poly_one, hk _⟩, Same.refl _⟩ ?_ ?_
    · rintro j σ H' hj ⟨⟨x, u, L, rfl, pi, px⟩, sm⟩
      dsimp only [gName, List.set]
      refine ⟨_, rfl, _, rfl, x, v, L, ts, rfl, px, pk.same sm, ?_, hts, fun t ht r hr' => ?_, fun x2 L2 H2 s2 pi2 _ pa2 => ⟨⟨x2, _, L2, rfl, ?_, pa2.K⟩, sm.trans s2⟩⟩
      · have a := deg_len pi.up (pi.deg (deg_pw hd j))
        exact Nat.lt_of_le_of_lt (Nat.mul_le_mul_right _ a) (hlen j hj)
      · have a := nrm_mem hr'
        have b : 2 ^ 400 < 2 ^ 401 := Nat.pow_lt_pow_right (by decide) (by omega)
        have c : intBits r.2.2 <= 401 := intBits_le_iff.mpr (by omega)
        exact IntMulOk.of_le (pw_bits hn (show j <= 20 by omega) pi t ht) c (by decide)
      · exact pi2.of_eqv (prod_eqv pi.eqv (Eqv.refl _))
    · rintro σ H' ⟨⟨x, u, L, rfl, pi, px⟩, sm⟩
      exact ⟨_, rfl, q x L H' sm pi px⟩
end
theorem ge_no {a b : T3} (h : keyLt a b) : lexGe (decide (2 <= 2)) [a.1, a.2.1] [b.1, b.2.1] = false := by
  show (if a.1 = b.1 then (if a.2.1 = b.2.1 then _ else decide (b.2.1 <= a.2.1)) else decide (b.1 <= a.1)) = false
  unfold keyLt at h
  by_cases e : a.1 = b.1
  · rw [if_pos e, if_neg (by omega)]
    exact decide_eq_false (by omega)
  · rw [if_neg e]
    exact decide_eq_false (by omega)
theorem cut2 (x y z : V) : cutV [x, y, z] none (some 2) = [x, y] := rfl
theorem not2 (x y z : V) : ¬ (HT.sIx [x, y, z].length 0 none = 0 /\ HT.sIx [x, y, z].length [x, y, z].length (some 2) = [x, y, z].length) := by
  rintro ⟨_, h⟩
  have e := HT.sIx_nat [x, y, z].length [x, y, z].length 2
  rw [show (some ((2 : Nat) : Int)) = some (2 : Int) from rfl] at e
  rw [e] at h
  simp at h
def spAt (K : W.Frag) : Sp := fun vs H Q _ => ∃ (a : Addr) (ns : List Int) (k : Nat), vs = [.ref a, .int k] /\ SqL K H a (ns.map V.int) /\ Q (.int (ns.getD k 0)) H
theorem mod_in (a n : Int) (h : 0 < n) : 0 <= a % n /\ a % n < n := ⟨Int.emod_nonneg _ (by omega), Int.emod_lt_of_pos _ h⟩
theorem cut_map (ns : List Int) (lo hi : Option Int) : ∃ ms : List Int, cutV (ns.map V.int) lo hi = ms.map V.int /\ ms.length <= ns.length := by
  refine ⟨(ns.drop (HT.sIx (ns.map V.int).length 0 lo)).take (HT.sIx (ns.map V.int).length (ns.map V.int).length hi - HT.sIx (ns.map V.int).length 0 lo), ?_, ?_⟩
  · unfold cutV
    rw [List.map_take, List.map_drop]
  · rw [List.length_take, List.length_drop]; omega
section
variable {P : Program} {w : World} {K : W.Frag} {mg : Str -> Option Value} {base : Heap}
theorem scAt : FnScope ["_law_script", "_law_k"] ["_law_script", "_law_k"] (defScope sAt) := ⟨rfl, rfl, rfl, by decide +kernel, rfl, by decide +kernel, by decide +kernel⟩
theorem d_at (T : TxP mg) (S : Src K mg "_law_at" sAt ["_law_script", "_law_k"]) : Def P w K mg base 1 "_law_at" ["_law_script", "_law_k"] (spAt K) := by
  refine S.def scAt (fun vs H Q E h => ?_) (fun f cdv A outer s H vs Q E hr h => ?_)
  · obtain ⟨_, _, _, rfl, _⟩ := h; rfl
  · obtain ⟨a, ns, k, rfl, hq, q⟩ := h
    refine ⟨_, pss_cons (ps_if (pt_cmpR op_lt (pv 1) (pe_callB (call_lenK K) (by rfl) T.len PySem.boot_len (pa_cons (pv 0) pa_nil)) (nomark _)) (pss_one (ps_ret (pe_ix (ix_listK K) (pv 0) (pv 1) (fun _ _ => rfl)))) pss_nil) (pss_one (ps_ret pe_int)), ?_⟩
    refine ⟨_, rfl, _, rfl, a, _, rfl, .inl hq, _, _, rfl, rfl, _, rfl, ?_⟩
    rw [List.length_map]
    by_cases h : k < ns.length
    · rw [decide_eq_true (show (k : Int) < (ns.length : Int) by omega)]
      refine iteT ⟨_, rfl, _, rfl, a, _, _, .int (ns.getD k 0), rfl, rfl, hq, atI_nat ?_, q⟩
      rw [List.getElem?_map, List.getD_eq_getElem?_getD]
      simp [h]
    · rw [decide_eq_false (show ¬ (k : Int) < (ns.length : Int) by omega)]
      refine iteF ?_
      rw [List.getD_eq_getElem?_getD, List.getElem?_eq_none (by omega)] at q
      exact q
end
def spExch (K : W.Frag) : Sp := fun vs H Q _ => ∃ (v : V) (L : List T3), vs = [v] /\ PolyAt H v L /\ L.length < 100000 /\ ∀ v' M H', Same H H' -> PolyIs (L.map sw) M -> M.length <= L.length -> PolyAt H' v' M -> Q v' H'
section
variable {P : Program} {w : World} {K : W.Frag} {mg : Str -> Option Value} {base : Heap}
theorem scExch : FnScope ["poly"] ["poly"] (defScope sExch) := ⟨rfl, rfl, rfl, by decide +kernel, rfl, by decide +kernel, by decide +kernel⟩
theorem nd3x : (["i", "j", "times"] : List Str).Nodup := by decide +kernel
theorem d_exch (S : Src K mg "exchanged" sExch ["poly"]) (DG : Def P w K mg base 1 "gathered" ["terms"] (spGath K)) : Def P w K mg base 2 "exchanged" ["poly"] (spExch K) := by
  refine S.def scExch (fun vs H Q E h => ?_) (fun f cdv A outer s H vs Q E hr h => ?_)
  · obtain ⟨_, _, rfl, _⟩ := h; rfl
  · obtain ⟨v, L, rfl, pa, l64, q⟩ := h
    obtain ⟨c, rs, rfl, hc, ht⟩ := pa.ex
    have rl : rs.length = L.length := Paired.length ht
    refine ⟨_, pss_one (ps_ret (pe_def DG hr rfl (pa_cons (pe_comp (N' := ["i", "j", "times"]) (fr := [none, none, none]) (compOk_of (by rfl)) rfl (pi_seqK K .t (pv 0))
      (g := gTup K 3 (gCons (gName 0) (gCons (gName 1) (gCons (gName 2) gNil)))) (fun _ _ _ _ => pg_tupK K 3 rfl (pgs_cons (pg_name (i := 0) nd3x rfl (Or.inl rfl) (Or.inr rfl)) (pgs_cons (pg_name (i := 1) nd3x rfl (Or.inl rfl) (Or.inr rfl)) (pgs_cons (pg_name (i := 2) nd3x rfl (Or.inl rfl) (Or.inr rfl)) pgs_nil))))
      (fun _ _ _ _ => pifs_nil) (fun _ _ _ _ => pe_tup (pa_cons (pv 1) (pa_cons (pv 0) (pa_cons (pv 2) pa_nil))))) pa_nil))), ?_⟩
    refine ⟨_, rfl, c, rfl, ⟨_, SqT.of hc⟩, comp_seq (k := .t) (a := c) (xs := rs) (fun σ => ∃ u v r, σ = [u, v, r]) (fun i ys H' => Same H H' /\ Paired (TermAt H') ys ((L.take i).map sw)) ⟨_, _, _, rfl⟩ ⟨Same.refl _, .nil⟩ (natB (by lia)) (fun i ys H' _ z => SqT.of (z.1 _ _ hc)) ?_ ?_⟩
    · rintro i z ys σ H' N hz ⟨u, v, r, rfl⟩ ⟨sm, hy⟩ hN
      obtain ⟨t, e1, b, rfl, hb⟩ := Paired.at ht hz
      refine ⟨b, _, rfl, SqT.of (sm _ _ hb), rfl, _, _, rfl, _, _, rfl, _, _, rfl, rfl, ?_⟩
      dsimp only [gName, List.set]
      refine yesT ⟨_, rfl, _, rfl, _, rfl, by show 3 <= sizeLine; decide, fun d hd => ?_⟩
      refine hN _ _ _ ⟨_, _, _, rfl⟩ ⟨sm.trans (Same.new hd), ?_⟩ (by simp)
      rw [take_succ_of e1, List.map_append]
      exact L2.Paired.snoc (terms_same hy (Same.new hd)) ⟨d, rfl, upd_same⟩
    · rintro ys H' ⟨sm, hy⟩ p hp
      rw [rl, List.take_length] at hy
      have s1 := Same.new (o := HO.lst ys) hp
      exact ⟨.l, p, ys, L.map sw, rfl, SqL.of upd_same, termsK (terms_same hy s1), by rw [List.length_map]; exact l64, fun v' M H2 s2 pM ml pat => q v' M H2 ((sm.trans s1).trans s2) pM (by rw [List.length_map] at ml; exact ml) pat⟩
end
def PolyB (L : List T3) : Prop := ∀ t ∈ L, 0 <= t.1 /\ t.1 <= 60 /\ 0 <= t.2.1 /\ t.2.1 <= 60 /\ Builtin.Int.intBits t.2.2 <= 256
def wTerm (x y : Int) (t : T3) : Int := t.2.2 * x ^ t.1.toNat * y ^ t.2.1.toNat
def worth (L : List T3) (x y : Int) : Int := (L.map (wTerm x y)).sum
def spNPow : Sp := fun vs H Q _ => ∃ x k : Int, vs = [.int x, .int k] /\ 0 <= k /\ k <= 60 /\ Builtin.Int.intBits x <= 256 /\ Q (.int (x ^ k.toNat)) H
def spWorth (K : W.Frag) : Sp := fun vs H Q _ => ∃ (v : V) (L : List T3) (x y : Int), vs = [v, .int x, .int y] /\ PolyAt H v L /\ PolyB L /\ L.length < 1000 /\ Builtin.Int.intBits x <= 256 /\ Builtin.Int.intBits y <= 256 /\ ∀ H', Same H H' -> Q (.int (worth L x y)) H'
theorem pow_bits {x : Int} {k : Nat} (hx : Builtin.Int.intBits x <= 256) (hk : k <= 60) : Builtin.Int.intBits (x ^ k) <= 15361 :=
  Nat.le_trans (intBits_pow_le hx k) (by omega)
theorem mul1 {x : Int} {k : Nat} (hx : Builtin.Int.intBits x <= 256) (hk : k <= 60) : IntMulOk (x ^ k) x := IntMulOk.of_le (pow_bits hx hk) hx (by decide)
theorem mul2 {n x : Int} {k : Nat} (hn : Builtin.Int.intBits n <= 256) (hx : Builtin.Int.intBits x <= 256) (hk : k <= 60) : IntMulOk n (x ^ k) := IntMulOk.of_le hn (pow_bits hx hk) (by decide)
theorem mul3 {n x y : Int} {k j : Nat} (hn : Builtin.Int.intBits n <= 256) (hx : Builtin.Int.intBits x <= 256) (hy : Builtin.Int.intBits y <= 256) (hk : k <= 60) (hj : j <= 60) : IntMulOk (n * x ^ k) (y ^ j) :=
  IntMulOk.of_le (intBits_mul_le hn (pow_bits hx hk)) (pow_bits hy hj) (by decide)
section
variable {P : Program} {w : World} {K : W.Frag} {mg : Str -> Option Value} {base : Heap}
theorem scNPow : FnScope ["number", "k", "power", "step"] ["number", "k"] (defScope sPow) := ⟨rfl, rfl, rfl, by decide +kernel, rfl, by decide +kernel, by decide +kernel⟩
theorem d_npow (T : TxP mg) (S : Src K mg "number_to_power" sPow ["number", "k"]) : Def P w K mg base 1 "number_to_power" ["number", "k"] spNPow := by
  refine S.def scNPow (fun vs H Q E h => ?_) (fun f cdv A outer s H vs Q E hr h => ?_)
  · obtain ⟨_, _, rfl, _⟩ := h; rfl
  · obtain ⟨x, k, rfl, k0, k60, hx, q⟩ := h
    refine ⟨_, pss_cons (ps_set (i := 2) scNPow.nd rfl (Or.inl rfl) pe_int)
      (pss_cons (ps_for PassesOwn.never rfl (pi_range1 rfl T.range (pa_cons (pv 1) pa_nil)) (pg_name (i := 3) scNPow.nd rfl (Or.inl rfl)) (pss_one (ps_set (i := 2) scNPow.nd rfl (Or.inl rfl) (pe_op op_mulB (pv 2) (pv 0)))))
      (pss_one (ps_ret (pv 2)))), ?_⟩
    refine ⟨_, rfl, k, rfl, by omega, by omega, ?_⟩
    refine for_range (fun i σ H' => (∃ u, σ = [some (.int x), some (.int k), some (.int (x ^ i)), u]) /\ H' = H) ⟨⟨none, by rw [Int.pow_zero]; rfl⟩, rfl⟩ ?_ ?_
    · rintro i σ H' hi ⟨⟨u, rfl⟩, rfl⟩
      refine ⟨_, rfl, _, rfl, _, _, rfl, rfl, mul1 hx (by omega), ⟨⟨some (.int (0 + (i : Int))), ?_⟩, rfl⟩⟩
      rw [Int.pow_succ]
      rfl
    · rintro σ H' ⟨⟨u, rfl⟩, rfl⟩
      exact ⟨_, rfl, q⟩
theorem scWorthAt : FnScope ["poly", "x", "y"] ["poly", "x", "y"] (defScope sWorthAt) := ⟨rfl, rfl, rfl, by decide +kernel, rfl, by decide +kernel, by decide +kernel⟩
theorem ndW : (["i", "j", "times", "x", "y"] : List Str).Nodup := by decide +kernel
theorem d_worthat (T : TxP mg) (hsum : mg "sum" = none) (S : Src K mg "worth_at" sWorthAt ["poly", "x", "y"]) (DP : Def P w K mg base 1 "number_to_power" ["number", "k"] spNPow) : Def P w K mg base 2 "worth_at" ["poly", "x", "y"] (spWorth K) := by
  refine S.def scWorthAt (fun vs H Q E h => ?_) (fun f cdv A outer s H vs Q E hr h => ?_)
  · obtain ⟨_, _, _, _, rfl, _⟩ := h; rfl
  · obtain ⟨v, L, x, y, rfl, pa, hB, h64, hx, hy, q⟩ := h
    obtain ⟨c, rs, rfl, hc, ht⟩ := pa.ex
    have rl : rs.length = L.length := Paired.length ht
    refine ⟨_, pss_one (ps_ret (pe_callB (call_sumE rfl) (by rfl) hsum boot_sum' (pa_cons (pe_comp (N' := ["i", "j", "times", "x", "y"]) (fr := [none, none, none, some 1, some 2]) (compOk_of (by rfl)) rfl (pi_seqK K .t (pv 0))
      (g := gTup K 3 (gCons (gName 0) (gCons (gName 1) (gCons (gName 2) gNil)))) (fun _ _ _ _ => pg_tupK K 3 rfl (pgs_cons (pg_name (i := 0) ndW rfl (Or.inl rfl) (Or.inr rfl)) (pgs_cons (pg_name (i := 1) ndW rfl (Or.inl rfl) (Or.inr rfl)) (pgs_cons (pg_name (i := 2) ndW rfl (Or.inl rfl) (Or.inr rfl)) pgs_nil))))
      (fun _ _ _ _ => pifs_nil) (fun _ _ _ _ => pe_op op_mulB (pe_op op_mulB (pv 2) (pe_def DP hr rfl (pa_cons (pv 3) (pa_cons (pv 0) pa_nil)))) (pe_def DP hr rfl (pa_cons (pv 4) (pa_cons (pv 1) pa_nil))))) pa_nil))), ?_⟩
    refine ⟨_, rfl, c, rfl, ⟨_, SqT.of hc⟩, comp_seq (k := .t) (a := c) (xs := rs) (fun σ => ∃ u v r, σ = [u, v, r, some (.int x), some (.int y)]) (fun i ys H' => H' = H /\ ys = ((L.take i).map (wTerm x y)).map V.int) ⟨_, _, _, rfl⟩ ⟨rfl, rfl⟩ (natB (by lia)) (fun i ys H' _ z => SqT.of (by rw [z.1]; exact hc)) ?_ ?_⟩
    · rintro i z ys σ H' N hz ⟨u, v, r, rfl⟩ ⟨rfl, rfl⟩ hN
      obtain ⟨t, e1, b, rfl, hb⟩ := Paired.at ht hz
      obtain ⟨t1, t2, t3, t4, t5⟩ := hB t (List.mem_of_getElem? e1)
      refine ⟨b, _, rfl, SqT.of hb, rfl, _, _, rfl, _, _, rfl, _, _, rfl, rfl, ?_⟩
      dsimp only [gName, List.set]
      refine yesT ?_
      refine ⟨_, rfl, _, rfl, _, rfl, _, _, rfl, t1, t2, hx, _, _, rfl, rfl, mul2 t5 hx (by omega), _, rfl, _, rfl, _, _, rfl, t3, t4, hy, _, _, rfl, rfl, mul3 t5 hx hy (by omega) (by omega), ?_⟩
      refine hN _ _ _ ⟨_, _, _, rfl⟩ ⟨rfl, ?_⟩ (by simp)
      rw [take_succ_of e1, List.map_append, List.map_append]
      rfl
    · rintro ys H' ⟨rfl, rfl⟩ p hp
      rw [rl, List.take_length]
      exact ⟨p, _, rfl, SqL.of upd_same, q _ (Same.new hp)⟩
end
end My
namespace My
open PySem L2 PySem.NumText PyProof.Rows
def decC (n : Int) : List Nat := (Str.ofString (toString n)).cps.toList
theorem mkS_list (l : List Nat) : (mkS l).cps.toList = l := by unfold mkS; simp
theorem mkS_len (l : List Nat) : (mkS l).length = l.length := by show (l.toArray).size = _; simp
theorem mkS_size (l : List Nat) : (mkS l).cps.size = l.length := by show (l.toArray).size = _; simp
theorem str_ext {a b : Str} (h : a.cps.toList = b.cps.toList) : a = b := by rw [<- mkS_cps a, <- mkS_cps b, h]
theorem app_codes (a b : Str) : (a ++ b).cps.toList = a.cps.toList ++ b.cps.toList := by rw [PySem.Str.cps_append, Array.toList_append]
theorem mk_app (a b : List Nat) : mkS a ++ mkS b = mkS (a ++ b) := str_ext (by rw [app_codes, mkS_list, mkS_list, mkS_list])
theorem mkS_inj {a b : List Nat} (h : mkS a = mkS b) : a = b := by rw [<- mkS_list a, h, mkS_list]
theorem dec_str (n : Int) : (Str.ofString (toString n)) = mkS (decC n) := (mkS_cps _).symm
theorem dec_nat (m : Nat) : decC ((m : Nat) : Int) = (Nat.toDigits 10 m).map Char.toNat := PySem.W.KIN.signs_num m
theorem dec_neg (m : Nat) (h : 0 < m) : decC (-(m : Int)) = 45 :: decC (m : Int) := by
  obtain ⟨k, rfl⟩ : ∃ k, m = k + 1 := ⟨m - 1, by lia⟩
  rw [dec_nat]
  unfold decC
  rw [signs_ofString]
  show (toString (Int.negSucc k)).toList.map Char.toNat = _
  have e : toString (Int.negSucc k) = "-" ++ Nat.repr (k + 1) := rfl
  rw [e, String.toList_append, List.map_append, Nat.toList_repr]
  rfl
theorem dec_dig {n : Int} (h : 0 <= n) : AllDigits (decC n) := by
  obtain ⟨m, rfl⟩ := Int.eq_ofNat_of_zero_le h
  intro c hc
  rw [dec_nat] at hc
  obtain ⟨ch, hch, e⟩ := List.mem_map.mp hc
  rw [<- e]
  exact digit_range (Nat.isDigit_of_mem_toDigits (by decide) (by decide) hch)
theorem dec_ne (n : Int) (h : 0 <= n) : decC n ≠ [] := by
  obtain ⟨m, rfl⟩ := Int.eq_ofNat_of_zero_le h
  rw [dec_nat]
  intro e
  have h := toDigits_len_ge 10 m
  rw [List.map_eq_nil_iff.mp e] at h
  exact absurd h (by decide)
theorem dec_read {n : Int} (h : 0 <= n) (hl : (decC n).length <= 640) : PySem.intText? (mkS (decC n)) = some n := by
  have e := intText_digits (x := mkS (decC n)) (by rw [mkS_list]; exact dec_dig h) (by rw [mkS_list]; exact dec_ne n h) (by rw [mkS_len]; lia)
  obtain ⟨m, rfl⟩ := Int.eq_ofNat_of_zero_le h
  rw [mkS_list, dec_nat, PySem.W.KIN.val_back] at e
  rw [dec_nat]
  exact e
theorem dec_len {n : Int} (h : 0 <= n) {k : Nat} (hk : 1 <= k) (hn : n < 10 ^ k) : (decC n).length <= k := by
  have := toString_length_le h hk hn
  rw [dec_str, mkS_len] at this
  exact this
theorem digs_head : ∀ m : Nat, 0 < m -> ∃ c r, (Nat.toDigits 10 m).map Char.toNat = c :: r /\ 49 <= c /\ c <= 57 := by
  intro m
  induction m using Nat.strongRecOn with
  | _ m ih =>
    intro hm
    by_cases h : m < 10
    · rw [Nat.toDigits_of_lt_base h]
      have : ∀ d : Nat, d < 10 -> 0 < d -> 49 <= (Nat.digitChar d).toNat /\ (Nat.digitChar d).toNat <= 57 := by decide
      exact ⟨_, [], rfl, this m h hm⟩
    · have hm' : m % 10 < 10 := Nat.mod_lt m (by decide)
      have t : Nat.toDigits 10 (m / 10) ++ Nat.toDigits 10 (m % 10) = Nat.toDigits 10 (10 * (m / 10) + m % 10) := Nat.toDigits_append_toDigits (by decide) (by lia) hm'
      rw [Nat.div_add_mod] at t
      obtain ⟨c, r, e, hc⟩ := ih (m / 10) (by lia) (by lia)
      rw [<- t, List.map_append, e]
      exact ⟨c, _, rfl, hc⟩
theorem dec_head {n : Int} (h : 0 < n) : ∃ c r, decC n = c :: r /\ 49 <= c /\ c <= 57 := by
  obtain ⟨m, rfl⟩ := Int.eq_ofNat_of_zero_le (Int.le_of_lt h)
  rw [dec_nat]
  exact digs_head m (by lia)
theorem dec_signs (n : Int) : ∀ c ∈ decC n, c = 45 \/ (48 <= c /\ c <= 57) := by
  intro c hc
  by_cases h : 0 <= n
  · exact .inr (dec_dig h c hc)
  · obtain ⟨m, rfl⟩ : ∃ m : Nat, n = -(m : Int) := ⟨(-n).toNat, by lia⟩
    rw [dec_neg m (by lia)] at hc
    rcases List.mem_cons.mp hc with e | hc
    · exact .inl e
    · exact .inr (dec_dig (by lia) c hc)
theorem dec_len' {n : Int} (hn : n.natAbs < 10 ^ 60) : (decC n).length <= 61 := by
  by_cases h : 0 <= n
  · have := dec_len (n := n) h (k := 60) (by decide) (by lia)
    lia
  · obtain ⟨m, rfl⟩ : ∃ m : Nat, n = -(m : Int) := ⟨(-n).toNat, by lia⟩
    rw [dec_neg m (by lia)]
    have := dec_len (n := (m : Int)) (by lia) (k := 60) (by decide) (by lia)
    rw [List.length_cons]
    lia
def pwK (k : Int) : List Nat := if k = 1 then [] else 94 :: decC k
def xfC (u : Nat) (k : Int) : List (List Nat) := if k = 0 then [] else [u :: pwK k]
def facC (t : T3) : List (List Nat) := decC t.2.2 :: (xfC 120 t.1 ++ xfC 121 t.2.1)
def pwC (u : Nat) (k : Int) : List Nat := if k = 0 then [] else 42 :: u :: pwK k
def tmC (t : T3) : List Nat := decC t.2.2 ++ pwC 120 t.1 ++ pwC 121 t.2.1
theorem glue_cons (c : Nat) : ∀ (h : List Nat) (ts : List (List Nat)), glue c (h :: ts) = h ++ ts.flatMap fun t => c :: t
  | h, [] => by show h = _; simp
  | h, t :: ts => by
    show h ++ c :: glue c (t :: ts) = _
    rw [glue_cons c t ts]
    simp
theorem tm_glue (t : T3) : tmC t = glue 42 (facC t) := by
  unfold facC tmC
  rw [glue_cons, List.flatMap_append]
  have : ∀ u k, (xfC u k).flatMap (fun t => 42 :: t) = pwC u k := fun u k => by
    unfold xfC pwC
    split <;> simp
  rw [this, this, List.append_assoc]
theorem pwK_signs (k : Int) : ∀ c ∈ pwK k, c = 94 \/ c = 45 \/ (48 <= c /\ c <= 57) := by
  intro c hc
  unfold pwK at hc
  split at hc
  · cases hc
  · rcases List.mem_cons.mp hc with e | hc
    · exact .inl e
    · exact .inr (dec_signs k c hc)
theorem fac_signs (t : T3) : ∀ p ∈ facC t, ∀ c ∈ p, c = 120 \/ c = 121 \/ c = 94 \/ c = 45 \/ (48 <= c /\ c <= 57) := by
  have x : ∀ u k, (u = 120 \/ u = 121) -> ∀ p ∈ xfC u k, ∀ c ∈ p, c = 120 \/ c = 121 \/ c = 94 \/ c = 45 \/ (48 <= c /\ c <= 57) := fun u k hu p hp c hc => by
    unfold xfC at hp
    split at hp
    · cases hp
    · rw [List.mem_singleton.mp hp] at hc
      rcases List.mem_cons.mp hc with e | hc
      · rw [e]; rcases hu with h | h <;> simp [h]
      · exact .inr (.inr (pwK_signs k c hc))
  intro p hp c hc
  unfold facC at hp
  rcases List.mem_cons.mp hp with e | hp
  · rw [e] at hc
    exact .inr (.inr (.inr (dec_signs _ c hc)))
  · rcases List.mem_append.mp hp with hp | hp
    · exact x 120 _ (.inl rfl) p hp c hc
    · exact x 121 _ (.inr rfl) p hp c hc
theorem split_star (t : T3) : splitA 42 [] (tmC t) = facC t := by
  rw [tm_glue]
  refine splitA_glue (by unfold facC; simp) fun p hp h => ?_
  have := fac_signs t p hp 42 h
  lia
theorem pw_signs (u : Nat) (k : Int) : ∀ c ∈ pwC u k, c = 42 \/ c = u \/ c = 94 \/ c = 45 \/ (48 <= c /\ c <= 57) := by
  intro c hc
  unfold pwC at hc
  split at hc
  · cases hc
  · rcases List.mem_cons.mp hc with e | hc
    · exact .inl e
    · rcases List.mem_cons.mp hc with e | hc
      · exact .inr (.inl e)
      · exact .inr (.inr (pwK_signs k c hc))
theorem tm_free (t : T3) : 32 ∉ tmC t := by
  intro h
  unfold tmC at h
  rcases List.mem_append.mp h with h | h
  · rcases List.mem_append.mp h with h | h
    · have := dec_signs _ 32 h; lia
    · have := pw_signs _ _ 32 h; lia
  · have := pw_signs _ _ 32 h; lia
structure TmOk (t : T3) : Prop where
  i0 : 0 <= t.1
  i6 : t.1 <= 60
  j0 : 0 <= t.2.1
  j6 : t.2.1 <= 60
  nz : t.2.2 ≠ 0
  ab : t.2.2.natAbs < 10 ^ 60
theorem pwK_len {k : Int} (h0 : 0 <= k) (h6 : k <= 60) : (pwK k).length <= 3 := by
  unfold pwK
  split
  · simp
  · have := dec_len (n := k) h0 (k := 2) (by decide) (by lia)
    rw [List.length_cons]
    lia
theorem pwC_len {u : Nat} {k : Int} (h0 : 0 <= k) (h6 : k <= 60) : (pwC u k).length <= 5 := by
  have := pwK_len h0 h6
  unfold pwC
  split
  · simp
  · rw [List.length_cons, List.length_cons]; lia
theorem tm_len {t : T3} (h : TmOk t) : (tmC t).length <= 71 := by
  have h1 := dec_len' h.ab
  have h2 := pwC_len (u := 120) h.i0 h.i6
  have h3 := pwC_len (u := 121) h.j0 h.j6
  unfold tmC
  rw [List.length_append, List.length_append]
  lia
def glue3 : List (List Nat) -> List Nat
  | [] => []
  | [w] => w
  | w :: v :: r => w ++ (32 :: 43 :: 32 :: glue3 (v :: r))
def posW : Nat -> List (List Nat) -> List Nat
  | _, [] => []
  | _, [_] => []
  | k, w :: v :: r => (k + w.length) :: posW (k + w.length + 3) (v :: r)
theorem sub_head {x y : Str} {i : Nat} {c : Nat} {r : List Nat} (hy : y.cps.toList = c :: r) (h : Builtin.Str.subAt x y i = true) : x.cps.toList[i]? = some c := by
  unfold Builtin.Str.subAt at h
  have h2 := congrArg Array.toList (beq_iff_eq.mp h)
  rw [ex_eq, hy] at h2
  have h3 : ((x.cps.toList.drop i).take (i + y.length - i))[0]? = some c := by rw [h2]; rfl
  have yl : y.length = (c :: r).length := by rw [<- hy]; show y.cps.size = _; simp
  rw [List.getElem?_take_of_lt (by rw [yl, List.length_cons]; lia), List.getElem?_drop] at h3
  simpa using h3
theorem sub_here {x y : Str} {i : Nat} {r : List Nat} (h : x.cps.toList.drop i = y.cps.toList ++ r) : Builtin.Str.subAt x y i = true := by
  unfold Builtin.Str.subAt
  rw [beq_iff_eq]
  apply Array.toList_inj.mp
  rw [ex_eq, h]
  have yl : y.length = y.cps.toList.length := by show y.cps.size = _; simp
  rw [show i + y.length - i = y.cps.toList.length by lia]
  exact List.take_left
section
variable {x y : Str} (hy : y.cps.toList = [32, 43, 32])
include hy
theorem y_len : y.length = 3 := by
  have : y.cps.toList.length = 3 := by rw [hy]; rfl
  show y.cps.size = 3
  simpa using this
theorem occ_skip {l : List Nat} {k : Nat} {acc : Array Nat} {free : Nat} (h : ¬ free <= k \/ x.cps.toList[k]? ≠ some 32 \/ x.length < k + 3) : StrLaws.occBody x y x.length (x.length + 1) k (acc, free) = pure (ForInStep.yield (acc, free)) := by
  unfold StrLaws.occBody
  have yl := y_len hy
  rw [if_neg fun z => by
    obtain ⟨⟨⟨_, a⟩, b⟩, c⟩ := z
    have a : free <= k := a
    rcases h with h | h | h
    · exact h a
    · exact h (sub_head hy c)
    · rw [yl] at b; lia]
theorem occ_word : ∀ (w : List Nat) (n k : Nat) (acc : Array Nat) (free : Nat) (r : List Nat), x.cps.toList.drop k = w ++ r -> 32 ∉ w ->
    (forIn (List.range' k (w.length + n)) (acc, free) (StrLaws.occBody x y x.length (x.length + 1))) = (forIn (List.range' (k + w.length) n) (acc, free) (StrLaws.occBody x y x.length (x.length + 1)) : Id _)
  | [], n, k, acc, free, r, hd, hw => by simp
  | c :: w, n, k, acc, free, r, hd, hw => by
    have hc : x.cps.toList[k]? = some c := by
      have := congrArg (fun l => l[0]?) hd
      simpa [List.getElem?_drop] using this
    have hd' : x.cps.toList.drop (k + 1) = w ++ r := by
      have := congrArg List.tail hd
      simpa [List.tail_drop] using this
    rw [show (c :: w).length + n = (w.length + n) + 1 by rw [List.length_cons]; lia, List.range'_succ, List.forIn_cons, occ_skip hy (l := []) (.inr (.inl (by rw [hc]; intro z; exact hw (by rw [Option.some.inj z]; exact List.mem_cons_self ..))))]
    have ih := occ_word w n (k + 1) acc free r hd' fun z => hw (List.mem_cons_of_mem _ z)
    rw [show k + 1 + w.length = k + (c :: w).length by rw [List.length_cons]; lia] at ih
    exact ih
theorem occ_all : ∀ (ws : List (List Nat)) (k : Nat) (acc : Array Nat) (free : Nat), ws ≠ [] -> (∀ w ∈ ws, 32 ∉ w) -> x.cps.toList.drop k = glue3 ws -> k + (glue3 ws).length = x.length -> acc.size <= k -> free <= k ->
    (forIn (List.range' k ((glue3 ws).length + 1)) (acc, free) (StrLaws.occBody x y x.length (x.length + 1)) : Id _).run.fst.toList = acc.toList ++ posW k ws
  | [], _, _, _, ne, _, _, _, _, _ => absurd rfl ne
  | [w], k, acc, free, _, hw, hd, hl, ha, hf => by
    have hd : x.cps.toList.drop k = w ++ [] := by rw [hd, List.append_nil]; rfl
    have hl : k + w.length = x.length := hl
    show (forIn (List.range' k (w.length + 1)) (acc, free) _ : Id _).run.fst.toList = _
    rw [occ_word hy w 1 k acc free [] hd (hw w (List.mem_cons_self ..))]
    rw [show List.range' (k + w.length) 1 = [k + w.length] from rfl, List.forIn_cons, occ_skip hy (l := []) (.inr (.inr (by lia)))]
    simp [posW]
  | w :: v :: r, k, acc, free, _, hw, hd, hl, ha, hf => by
    have e : glue3 (w :: v :: r) = w ++ (32 :: 43 :: 32 :: glue3 (v :: r)) := rfl
    rw [e] at hd hl ⊢
    rw [List.length_append, List.length_cons, List.length_cons, List.length_cons] at hl
    rw [show (w ++ (32 :: 43 :: 32 :: glue3 (v :: r))).length + 1 = w.length + ((glue3 (v :: r)).length + 1 + 3) by rw [List.length_append, List.length_cons, List.length_cons, List.length_cons]; lia]
    rw [occ_word hy w _ k acc free _ hd (hw w (List.mem_cons_self ..))]
    have hd1 : x.cps.toList.drop (k + w.length) = [32, 43, 32] ++ glue3 (v :: r) := by
      rw [<- List.drop_drop, hd, List.drop_left]
      rfl
    have hd2 : x.cps.toList.drop (k + w.length + 3) = glue3 (v :: r) := by
      rw [<- List.drop_drop, hd1]
      rfl
    rw [show (glue3 (v :: r)).length + 1 + 3 = ((glue3 (v :: r)).length + 1 + 2) + 1 from rfl, List.range'_succ, List.forIn_cons]
    have yl := y_len hy
    have hb : StrLaws.occBody x y x.length (x.length + 1) (k + w.length) (acc, free) = pure (ForInStep.yield (acc.push (k + w.length), k + w.length + 3)) := by
      unfold StrLaws.occBody
      rw [if_pos ⟨⟨⟨by show acc.size < _; lia, by show free <= _; lia⟩, by rw [yl]; lia⟩, sub_here (r := glue3 (v :: r)) (by rw [hd1, hy])⟩, yl]
    rw [hb]
    show (forIn (List.range' (k + w.length + 1) ((glue3 (v :: r)).length + 1 + 2)) (acc.push (k + w.length), k + w.length + 3) _ : Id _).run.fst.toList = _
    rw [show (glue3 (v :: r)).length + 1 + 2 = ((glue3 (v :: r)).length + 1 + 1) + 1 from rfl, List.range'_succ, List.forIn_cons, occ_skip hy (l := []) (.inl (by lia))]
    show (forIn (List.range' (k + w.length + 1 + 1) ((glue3 (v :: r)).length + 1 + 1)) (acc.push (k + w.length), k + w.length + 3) _ : Id _).run.fst.toList = _
    rw [List.range'_succ, List.forIn_cons, occ_skip hy (l := []) (.inl (by lia))]
    have ih := occ_all (v :: r) (k + w.length + 3) (acc.push (k + w.length)) (k + w.length + 3) (by simp) (fun w hw' => hw w (List.mem_cons_of_mem _ hw')) hd2 (by lia) (by simp; lia) (Nat.le_refl _)
    refine Eq.trans ih ?_
    simp [posW]
end
theorem parts3 (S : Array Nat) : ∀ (ws : List (List Nat)) (pre : List Nat), ws ≠ [] -> S.toList = pre ++ glue3 ws ->
    ((pre.length :: (posW pre.length ws).map (· + 3)).zip (posW pre.length ws ++ [S.size])).map (fun p => (S.extract p.1 p.2).toList) = ws
  | [], _, ne, _ => absurd rfl ne
  | [w], pre, _, hS => by
    have hS : S.toList = pre ++ w := hS
    have hz : S.size = pre.length + w.length := by rw [<- Array.length_toList, hS, List.length_append]
    show [(S.extract pre.length S.size).toList] = [w]
    rw [ex_eq, hz, hS, List.drop_left, show pre.length + w.length - pre.length = w.length by lia, List.take_length]
  | w :: v :: r, pre, _, hS => by
    have hS : S.toList = pre ++ (w ++ (32 :: 43 :: 32 :: glue3 (v :: r))) := hS
    have hS' : S.toList = (pre ++ w ++ [32, 43, 32]) ++ glue3 (v :: r) := by rw [hS]; simp
    have hl : (pre ++ w ++ [32, 43, 32]).length = pre.length + w.length + 3 := by rw [List.length_append, List.length_append]; rfl
    have ih := parts3 S (v :: r) (pre ++ w ++ [32, 43, 32]) (by simp) hS'
    rw [hl] at ih
    show (S.extract pre.length (pre.length + w.length)).toList :: _ = _
    rw [ex_eq, hS, List.drop_left, show pre.length + w.length - pre.length = w.length by lia, List.take_left]
    congr 1
theorem split3 {x y : Str} (hy : y.cps.toList = [32, 43, 32]) {ws : List (List Nat)} (ne : ws ≠ []) (hw : ∀ w ∈ ws, 32 ∉ w) (hx : x.cps.toList = glue3 ws) : SplitIs x y (ws.map mkS) := by
  have xl : x.length = (glue3 ws).length := by rw [<- hx]; show x.cps.size = _; simp
  by_cases h : x.length < y.length
  · refine .inl ⟨h, ?_⟩
    rw [y_len hy] at h
    match ws, ne with
    | [w], _ =>
      have hx : x.cps.toList = w := hx
      rw [<- hx, List.map_singleton, mkS_cps]
    | w :: v :: r, _ =>
      have : (glue3 (w :: v :: r)).length = w.length + (3 + (glue3 (v :: r)).length) := by
        show (w ++ (32 :: 43 :: 32 :: glue3 (v :: r))).length = _
        rw [List.length_append, List.length_cons, List.length_cons, List.length_cons]
        lia
      lia
  · refine .inr ⟨h, ?_⟩
    have e : Builtin.Str.occurrences x y 0 x.length (x.length + 1) = posW 0 ws := by
      rw [StrLaws.occ_eq]
      have h := occ_all (x := x) hy ws 0 #[] 0 ne hw (by rw [List.drop_zero, hx]) (by lia) (Nat.le_refl _) (Nat.le_refl _)
      rw [show (glue3 ws).length + 1 = x.length + 1 - 0 by lia] at h
      simpa using h
    rw [e, y_len hy]
    have := congrArg (List.map mkS) (parts3 x.cps ws [] ne (by rw [hx]; rfl))
    unfold Builtin.Str.partsBetween
    refine Eq.trans ?_ this
    rw [List.map_map]
    refine List.map_congr_left ?_
    rintro ⟨i, j⟩ _
    show (⟨x.cps.extract i j⟩ : Str) = mkS (x.cps.extract i j).toList
    exact (mkS_cps ⟨x.cps.extract i j⟩).symm
theorem glue3_cons (h : List Nat) : ∀ ts : List (List Nat), glue3 (h :: ts) = h ++ ts.flatMap fun t => [32, 43, 32] ++ t
  | [] => by show h = _; simp
  | t :: ts => by
    show h ++ (32 :: 43 :: 32 :: glue3 (t :: ts)) = _
    rw [glue3_cons t ts]
    simp
theorem join_codes (z : Str) : ∀ (ys : List Str), (Txt.join z ys).cps.toList = match ys with | [] => [] | y :: r => y.cps.toList ++ r.flatMap fun t => z.cps.toList ++ t.cps.toList
  | [] => by unfold Txt.join Builtin.Str.glued; rfl
  | y :: r => by
    unfold Txt.join Builtin.Str.glued
    show (List.foldl (fun acc p => acc ++ z.cps ++ p.cps) y.cps r).toList = _
    have key : ∀ (r : List Str) (a : Array Nat), (List.foldl (fun acc (p : Str) => acc ++ z.cps ++ p.cps) a r).toList = a.toList ++ r.flatMap fun t => z.cps.toList ++ t.cps.toList := by
      intro r
      induction r with
      | nil => intro a; simp
      | cons t r ih => intro a; rw [List.foldl_cons, ih]; simp
    exact key r y.cps
theorem join3 {z : Str} (hz : z.cps.toList = [32, 43, 32]) {ws : List (List Nat)} (ne : ws ≠ []) : Txt.join z (ws.map mkS) = mkS (glue3 ws) := by
  apply str_ext
  rw [join_codes, mkS_list]
  match ws, ne with
  | w :: ts, _ =>
    show (mkS w).cps.toList ++ (ts.map mkS).flatMap (fun t => z.cps.toList ++ t.cps.toList) = _
    rw [List.flatMap_map, glue3_cons]
    simp only [mkS_list, hz]
def polyC (L : List T3) : List Nat := if L = [] then [48] else glue3 (L.map tmC)
theorem glue3_len : ∀ {ws : List (List Nat)} {k : Nat}, (∀ w ∈ ws, w.length <= k) -> (glue3 ws).length <= ws.length * (k + 3)
  | [], _, _ => Nat.zero_le _
  | [w], k, h => by
    have := h w (List.mem_cons_self ..)
    show w.length <= 1 * (k + 3)
    lia
  | w :: v :: r, k, h => by
    have h1 := h w (List.mem_cons_self ..)
    have ih := glue3_len (ws := v :: r) (k := k) fun w hw => h w (List.mem_cons_of_mem _ hw)
    show (w ++ (32 :: 43 :: 32 :: glue3 (v :: r))).length <= _
    rw [List.length_append, List.length_cons, List.length_cons, List.length_cons, List.length_cons, Nat.add_mul]
    lia
theorem tm_first {t : T3} (h : t.2.2 ≠ 0) : ∃ c r, tmC t = c :: r /\ c ≠ 48 := by
  unfold tmC
  by_cases z : 0 < t.2.2
  · obtain ⟨c, r, e, h1, h2⟩ := dec_head z
    rw [e]
    exact ⟨c, _, rfl, by lia⟩
  · obtain ⟨m, em⟩ : ∃ m : Nat, t.2.2 = -(m : Int) := ⟨(-t.2.2).toNat, by lia⟩
    rw [em, dec_neg m (by lia)]
    exact ⟨45, _, rfl, by decide⟩
theorem poly_first {t : T3} {L : List T3} (h : t.2.2 ≠ 0) : mkS (polyC (t :: L)) ≠ mkS [48] := by
  intro e
  have e := mkS_inj e
  unfold polyC at e
  rw [if_neg (by simp), List.map_cons, glue3_cons] at e
  obtain ⟨c, r, e1, hc⟩ := tm_first h
  rw [e1, List.cons_append] at e
  exact hc (List.cons.inj e).1
end My
namespace My
open PySem L2 PySem.NumText PyProof.Rows
structure Tx26 (mg : Str -> Option Value) : Prop where
  str : mg "str" = none
  all : mg "all" = none
  zip : mg "zip" = none
  fig : ∃ t, mg "FIGURES" = some (.str "0123456789" t)
  mfig : ∃ t, mg "MOST_FIGURES" = some (.int 60 t)
  mpow : ∃ t, mg "MOST_POWER" = some (.int 60 t)
  mter : ∃ t, mg "MOST_TERMS" = some (.int 100 t)
theorem boot_str' : bootBuiltins "str" = some (.type "str") := by first | rfl | decide +kernel
theorem boot_all6' : bootBuiltins "all" = some (.builtin "all") := by first | rfl | decide +kernel
theorem fig_mem {c : Nat} (h : 48 <= c /\ c <= 57) : c ∈ (("0123456789" : Str).cps.toList) := by
  have : c = 48 \/ c = 49 \/ c = 50 \/ c = 51 \/ c = 52 \/ c = 53 \/ c = 54 \/ c = 55 \/ c = 56 \/ c = 57 := by lia
  rcases this with rfl | rfl | rfl | rfl | rfl | rfl | rfl | rfl | rfl | rfl <;> decide +kernel
theorem lit_dash : ("-" : Str) = mkS [45] := by decide +kernel
theorem lit_hat : ("^" : Str) = mkS [94] := by decide +kernel
theorem lit_star : ("*" : Str) = mkS [42] := by decide +kernel
theorem lit_x : ("x" : Str) = mkS [120] := by decide +kernel
theorem lit_y : ("y" : Str) = mkS [121] := by decide +kernel
theorem lit_none : ("" : Str) = mkS [] := by decide +kernel
theorem lit_zero : ("0" : Str) = mkS [48] := by decide +kernel
theorem lit_plus : (" + " : Str) = mkS [32, 43, 32] := by decide +kernel
theorem starts_one (l : List Nat) (c : Nat) : Txt.startswith (mkS l) (mkS [c]) = (l.head? == some c) := by
  have e : Txt.startswith (mkS l) (mkS [c]) = (decide (0 + (mkS [c]).length <= (mkS l).length) && Builtin.Str.subAt (mkS l) ⟨#[c]⟩ 0) := rfl
  rw [e, sub_one, mkS_list, mkS_len, mkS_len]
  cases l with
  | nil => rfl
  | cons a l => simp
theorem slice_one (c : Nat) (l : List Nat) : Txt.slice (mkS (c :: l)) (some 1) none = mkS l := by
  have e0 : Builtin.Str.strSliceIndices (some 1) none 1 (mkS (c :: l)).length = Builtin.Str.strSliceIndices (some ((1 : Nat) : Int)) (some (((mkS (c :: l)).length : Nat) : Int)) 1 (mkS (c :: l)).length := by
    unfold Builtin.Str.strSliceIndices
    simp only [show ((1 : Int) > 0) = True from by simp, if_true]
    rw [if_neg (show ¬ (((mkS (c :: l)).length : Nat) : Int) < 0 by lia), show max (0 : Int) (min (((mkS (c :: l)).length : Nat) : Int) (((mkS (c :: l)).length : Nat) : Int)) = (((mkS (c :: l)).length : Nat) : Int) by lia]
    rfl
  have hl : (mkS (c :: l)).length = l.length + 1 := by rw [mkS_len, List.length_cons]
  unfold Txt.slice
  rw [e0, StrLaws.strSliceIndices_plain (by rw [hl]; lia) (Nat.le_refl _)]
  rw [if_neg (by rw [List.length_map, List.length_range, hl]; simp)]
  have := StrLaws.sliced_plain (mkS (c :: l)) (a := 1) (b := (mkS (c :: l)).length) (by rw [hl]; lia) (Nat.le_refl _)
  rw [StrLaws.strSliceIndices_plain (by rw [hl]; lia) (Nat.le_refl _)] at this
  rw [this, mkS_list, hl]
  show (⟨((l.take (l.length + 1 - 1))).toArray⟩ : Str) = mkS l
  rw [show l.length + 1 - 1 = l.length by lia, List.take_length]
  rfl
theorem strs_dec (a b : List Nat) : decide (V.str (mkS a) = V.str (mkS b)) = decide (a = b) := by
  rw [decide_eq_decide]
  exact ⟨fun z => mkS_inj (by injection z), fun z => by rw [z]⟩
def spAbove : Sp := fun vs H Q _ => ∃ n : Int, vs = [.str (mkS (decC n))] /\ 0 < n /\ n < 10 ^ 60 /\ ∀ H', Same H H' -> Q (.int n) H'
def spTimes : Sp := fun vs H Q _ => ∃ n : Int, vs = [.str (mkS (decC n))] /\ n ≠ 0 /\ n.natAbs < 10 ^ 60 /\ ∀ H', Same H H' -> Q (.int n) H'
def spRPow : Sp := fun vs H Q _ => ∃ k : Int, vs = [.str (mkS (pwK k))] /\ 1 <= k /\ k <= 60 /\ ∀ H', Same H H' -> Q (.int k) H'
def spRTerm : Sp := fun vs H Q _ => ∃ t : T3, vs = [.str (mkS (tmC t))] /\ TmOk t /\ ∀ d H', Same H H' -> H' d = some (.tup [.int t.1, .int t.2.1, .int t.2.2]) -> Q (.ref d) H'
theorem line_of {n : Nat} (h : n <= 100000) : n <= sizeLine := Nat.le_trans h (by decide)
theorem lt_line {n : Nat} (h : n <= 100000) : n < sizeLine := Nat.lt_of_le_of_lt h (by decide)
section
variable {P : Program} {w : World} {K : W.Frag} {mg : Str -> Option Value} {base : Heap}
theorem scAbove : FnScope ["word"] ["word"] (defScope sRAbove) := ⟨rfl, rfl, rfl, by decide +kernel, rfl, by decide +kernel, by decide +kernel⟩
theorem nd1s : (["sign"] : List Str).Nodup := by decide +kernel
theorem d_above (T : TxP mg) (T2 : Tx26 mg) (S : Src K mg "read_above_nought" sRAbove ["word"]) : Def P w K mg base 1 "read_above_nought" ["word"] spAbove := by
  refine S.def scAbove (fun vs H Q E h => ?_) (fun f cdv A outer s H vs Q E hr h => ?_)
  · obtain ⟨_, rfl, _⟩ := h; rfl
  · obtain ⟨n, rfl, n0, n60, q⟩ := h
    obtain ⟨tf, fig⟩ := T2.fig
    obtain ⟨tm, mfig⟩ := T2.mfig
    refine ⟨_, pss_cons (ps_if (pt_not (pt_chain op_le op_le pe_int (pe_callB call_len_str (by rfl) T.len PySem.boot_len (pa_cons (pv 0) pa_nil)) (pe_glob (v := .int 60) rfl mfig ⟨_, rfl⟩))) pss_never pss_nil)
      (pss_cons (ps_if (PW.pt (pw_or (pt_cmpR op_eq (pe_ix ix_str (pv 0) pe_int (fun _ _ => rfl)) pe_str (nomark _)) (pw_or1 (pt_not (pt_val (pe_callB (call_all rfl) (by rfl) T2.all boot_all6' (pa_cons (pe_comp (N' := ["sign"]) (fr := [none]) (compOk_of (by rfl)) rfl (pi_str (pv 0))
          (fun _ _ _ _ => pg_name (i := 0) nd1s rfl (Or.inl rfl) (Or.inr rfl)) (fun _ _ _ _ => pifs_nil)
          (fun _ _ _ _ => pe_cmpR op_in_str (pv 0) (pe_glob (v := .str "0123456789") rfl fig ⟨_, rfl⟩) rfl)) pa_nil))))))) pss_never pss_nil)
      (pss_one (ps_ret (pe_callTy call_intS rfl T.int boot_int' (pa_cons (pv 0) pa_nil))))), ?_⟩
    have L : (decC n).length <= 60 := dec_len (Int.le_of_lt n0) (by decide) n60
    have L' : (mkS (decC n)).length = (decC n).length := mkS_len _
    obtain ⟨c, r, ec, c1, c2⟩ := dec_head n0
    have L1 : 1 <= (decC n).length := by rw [ec, List.length_cons]; lia
    have dd := dec_dig (Int.le_of_lt n0)
    refine ⟨_, rfl, _, rfl, by rw [L']; exact line_of (by lia), _, _, rfl, rfl, _, rfl, ?_⟩
    rw [L', decide_eq_true (show (1 : Int) <= ((decC n).length : Int) by lia)]
    refine iteT ⟨_, _, rfl, rfl, _, rfl, ?_⟩
    rw [decide_eq_true (show ((decC n).length : Int) <= 60 by lia)]
    refine iteF ?_
    refine ⟨_, rfl, _, 0, c, rfl, rfl, by rw [L']; exact line_of (by lia), by rw [mkS_list, ec]; exact atI_nat (j := 0) rfl, rfl, _, rfl, ?_⟩
    rw [lit_zero, show (⟨#[c]⟩ : Str) = mkS [c] from rfl, strs_dec, decide_eq_false (show ¬ [c] = [48] by intro z; have := (List.cons.inj z).1; lia)]
    refine iteF ?_
    refine ⟨_, rfl, _, rfl, ?_, comp_str (z := mkS (decC n)) (fun σ => ∃ v, σ = [v]) (fun j ys H' => H' = H /\ ys = List.replicate j (V.bl true)) ⟨_, rfl⟩ ⟨rfl, rfl⟩ (by rw [mkS_size]; exact lt_line (by lia)) ?_ ?_⟩
    · rw [<- Array.all_toList, mkS_list, List.all_eq_true]
      intro x hx
      have := dd x hx
      exact decide_eq_true (by lia)
    · rintro j c ys σ H' N hc ⟨u, rfl⟩ ⟨rfl, rfl⟩ hN
      dsimp only [gName, List.set]
      refine yesT ?_
      have hm : c ∈ decC n := by
        have hc' : (mkS (decC n)).cps.toList[j]? = some c := by simpa using hc
        rw [mkS_list] at hc'
        exact List.mem_of_getElem? hc'
      refine ⟨_, rfl, _, _, rfl, rfl, ?_⟩
      rw [StrLaws.found_one, decide_eq_true (fig_mem (dd c hm))]
      refine hN _ _ _ ⟨_, rfl⟩ ⟨rfl, ?_⟩ (by simp)
      rw [List.replicate_succ']
    · rintro ys H' ⟨rfl, rfl⟩ r hr'
      refine ⟨r, List.replicate (mkS (decC n)).cps.size true, rfl, SqL.of (by rw [upd_same]; simp), ?_⟩
      have ea : (List.replicate (mkS (decC n)).cps.size true).all id = true := by
        rw [List.all_eq_true]
        intro x hx
        rw [(List.mem_replicate.mp hx).2]
        rfl
      rw [ea]
      refine ⟨_, rfl, iteF ?_⟩
      have s2 := Same.new (o := HO.lst (List.replicate (mkS (decC n)).cps.size (V.bl true))) hr'
      exact ⟨_, rfl, _, n, rfl, dec_read (Int.le_of_lt n0) (by lia), by rw [L']; lia, q _ s2⟩
theorem scTimes : FnScope ["word"] ["word"] (defScope sRTimes) := ⟨rfl, rfl, rfl, by decide +kernel, rfl, by decide +kernel, by decide +kernel⟩
theorem d_times (S : Src K mg "read_times" sRTimes ["word"]) (DA : Def P w K mg base 1 "read_above_nought" ["word"] spAbove) : Def P w K mg base 2 "read_times" ["word"] spTimes := by
  refine S.def scTimes (fun vs H Q E h => ?_) (fun f cdv A outer s H vs Q E hr h => ?_)
  · obtain ⟨_, rfl, _⟩ := h; rfl
  · obtain ⟨n, rfl, nz, nb, q⟩ := h
    refine ⟨_, pss_cons (ps_if (pt_val (pe_bm PySem.F.plainAttrs_str PySem.F.slot_str_startswith PySem.F.type_str_startswith mt_starts (pv 0) (pa_cons pe_str pa_nil)))
        (pss_one (ps_ret (pe_un un_neg (pe_def DA hr rfl (pa_cons (pe_slice sl_str (pv 0) (po_some pe_int) po_none) pa_nil))))) pss_nil)
      (pss_one (ps_ret (pe_def DA hr rfl (pa_cons (pv 0) pa_nil)))), ?_⟩
    have L := dec_len' nb
    refine ⟨_, rfl, rfl, _, _, rfl, rfl, _, rfl, ?_⟩
    rw [lit_dash, starts_one]
    by_cases h : 0 < n
    · obtain ⟨c, r, ec, c1, c2⟩ := dec_head h
      rw [ec]
      rw [show ((c :: r).head? == some 45) = false from by simp; lia]
      refine iteF ⟨_, rfl, n, by rw [ec]; rfl, h, by lia, q⟩
    · obtain ⟨m, rfl⟩ : ∃ m : Nat, n = -(m : Int) := ⟨(-n).toNat, by lia⟩
      rw [dec_neg m (by lia)]
      refine iteT ⟨_, rfl, _, rfl, _, rfl, by rw [mkS_len]; exact line_of (by rw [dec_neg m (by lia)] at L; lia), ?_⟩
      rw [slice_one]
      exact ⟨m, rfl, by lia, by lia, fun H' s' => ⟨_, rfl, q H' s'⟩⟩
theorem scRPow : FnScope ["word", "power"] ["word"] (defScope sRPower) := ⟨rfl, rfl, rfl, by decide +kernel, rfl, by decide +kernel, by decide +kernel⟩
theorem d_rpow (T2 : Tx26 mg) (S : Src K mg "read_power" sRPower ["word"]) (DA : Def P w K mg base 1 "read_above_nought" ["word"] spAbove) : Def P w K mg base 2 "read_power" ["word"] spRPow := by
  refine S.def scRPow (fun vs H Q E h => ?_) (fun f cdv A outer s H vs Q E hr h => ?_)
  · obtain ⟨_, rfl, _⟩ := h; rfl
  · obtain ⟨k, rfl, k1, k6, q⟩ := h
    obtain ⟨tm, mpow⟩ := T2.mpow
    refine ⟨_, pss_cons (ps_if (pt_cmpR op_eq (pv 0) pe_str (nomark _)) (pss_one (ps_ret pe_int)) pss_nil)
      (pss_cons (ps_if (pt_not (pt_val (pe_bm PySem.F.plainAttrs_str PySem.F.slot_str_startswith PySem.F.type_str_startswith mt_starts (pv 0) (pa_cons pe_str pa_nil)))) pss_never pss_nil)
      (pss_cons (ps_set (i := 1) scRPow.nd rfl (Or.inl rfl) (pe_def DA hr rfl (pa_cons (pe_slice sl_str (pv 0) (po_some pe_int) po_none) pa_nil)))
      (pss_cons (ps_if (pt_not (pt_chain op_le op_le pe_int (pv 1) (pe_glob (v := .int 60) rfl mpow ⟨_, rfl⟩))) pss_never pss_nil)
      (pss_one (ps_ret (pv 1)))))), ?_⟩
    refine ⟨_, rfl, rfl, _, rfl, ?_⟩
    rw [lit_none, strs_dec]
    by_cases h : k = 1
    · subst h
      rw [decide_eq_true (show pwK 1 = [] from rfl)]
      exact iteT (q H (Same.refl _))
    · have e : pwK k = 94 :: decC k := if_neg h
      have L := pwK_len (k := k) (by lia) k6
      rw [e] at L ⊢
      rw [decide_eq_false (by simp)]
      refine iteF ⟨_, rfl, rfl, _, _, rfl, rfl, _, rfl, ?_⟩
      rw [lit_hat, starts_one]
      refine iteF ⟨_, rfl, _, rfl, _, rfl, by rw [mkS_len]; exact line_of (by lia), ?_⟩
      rw [slice_one]
      refine ⟨k, rfl, by lia, Int.lt_of_le_of_lt k6 (by decide), fun H1 s1 => ?_⟩
      refine ⟨_, rfl, _, _, rfl, rfl, _, rfl, ?_⟩
      rw [decide_eq_true (show (2 : Int) <= k by lia)]
      refine iteT ⟨_, _, rfl, rfl, _, rfl, ?_⟩
      rw [decide_eq_true k6]
      exact iteF ⟨_, rfl, q H1 s1⟩
end
end My
namespace My
open PySem L2 PySem.NumText PyProof.Rows
def vsC (F : List (List Nat)) : List V := F.map fun l => V.str (mkS l)
def atF (t : T3) : Nat -> Nat
  | 0 => 1
  | 1 => 1 + (xfC 120 t.1).length
  | _ => 1 + (xfC 120 t.1).length + (xfC 121 t.2.1).length
def pwF (t : T3) : Nat -> List Int
  | 0 => []
  | 1 => [t.1]
  | _ => [t.1, t.2.1]
theorem fac_len (t : T3) : (facC t).length = 1 + (xfC 120 t.1).length + (xfC 121 t.2.1).length := by
  unfold facC
  rw [List.length_cons, List.length_append]
  lia
theorem fac_at {t : T3} (h : TmOk t) {i : Nat} {x : V} (hx : ([V.str "x", V.str "y"] : List V)[i]? = some x) : ∃ (u : Nat) (k : Int) (pre post : List (List Nat)), x = .str (mkS [u]) /\ facC t = pre ++ (xfC u k ++ post) /\ pre.length = atF t i /\ atF t (i + 1) = atF t i + (xfC u k).length /\ pwF t (i + 1) = pwF t i ++ [k] /\ 0 <= k /\ k <= 60 /\ ∀ w ∈ post, w.head? ≠ some u := by
  match i with
  | 0 =>
    have hx : V.str "x" = x := Option.some.inj hx
    refine ⟨120, t.1, [decC t.2.2], xfC 121 t.2.1, by rw [<- hx, lit_x], rfl, rfl, rfl, rfl, h.i0, h.i6, fun w hw => ?_⟩
    unfold xfC at hw
    split at hw
    · cases hw
    · rw [List.mem_singleton.mp hw]
      simp
  | 1 =>
    have hx : V.str "y" = x := Option.some.inj hx
    refine ⟨121, t.2.1, decC t.2.2 :: xfC 120 t.1, [], by rw [<- hx, lit_y], ?_, ?_, rfl, rfl, h.j0, h.j6, fun w hw => nomatch hw⟩
    · unfold facC
      rw [List.append_nil]
      rfl
    · show (xfC 120 t.1).length + 1 = 1 + (xfC 120 t.1).length
      lia
  | i + 2 => simp at hx
theorem vs_at {F pre : List (List Nat)} {w : List Nat} {post : List (List Nat)} (h : F = pre ++ (w :: post)) : atI (vsC F) (pre.length : Int) = some (.str (mkS w)) := by
  refine atI_nat ?_
  unfold vsC
  rw [List.getElem?_map, h, List.getElem?_append_right (Nat.le_refl _), Nat.sub_self]
  rfl
theorem xf_len (u : Nat) (k : Int) : (xfC u k).length <= 1 := by
  unfold xfC
  split <;> simp
section
variable {P : Program} {w : World} {K : W.Frag} {mg : Str -> Option Value} {base : Heap}
theorem scRTerm : FnScope ["word", "factors", "times", "powers", "at", "unknown"] ["word"] (defScope sRTerm) := ⟨rfl, rfl, rfl, by decide +kernel, rfl, by decide +kernel, by decide +kernel⟩
theorem d_rterm (T : TxP mg) (S : Src K mg "read_term" sRTerm ["word"]) (DT : Def P w K mg base 2 "read_times" ["word"] spTimes) (DP : Def P w K mg base 2 "read_power" ["word"] spRPow) : Def P w K mg base 3 "read_term" ["word"] spRTerm := by
  refine S.def scRTerm (fun vs H Q E h => ?_) (fun f cdv A outer s H vs Q E hr h => ?_)
  · obtain ⟨_, rfl, _⟩ := h; rfl
  · obtain ⟨t, rfl, ok, q⟩ := h
    refine ⟨_, pss_cons (ps_set (i := 1) scRTerm.nd rfl (Or.inl rfl) (pe_bm PySem.F.plainAttrs_str PySem.F.slot_str_split PySem.F.type_str_split mt_split (pv 0) (pa_cons pe_str pa_nil)))
      (pss_cons (ps_set (i := 2) scRTerm.nd rfl (Or.inl rfl) (pe_def DT hr rfl (pa_cons (pe_ix (ix_listK K) (pv 1) pe_int (fun _ _ => rfl)) pa_nil)))
      (pss_cons (ps_set (i := 3) scRTerm.nd rfl (Or.inl rfl) (pe_lst pa_nil))
      (pss_cons (ps_set (i := 4) scRTerm.nd rfl (Or.inl rfl) pe_int)
      (pss_cons (ps_for PassesOwn.never rfl (pi_seqK K .t (pe_tup (pa_cons pe_str (pa_cons pe_str pa_nil)))) (pg_name (i := 5) scRTerm.nd rfl (Or.inl rfl))
        (pss_one (ps_if (PW.pt (pw_and (pt_cmpR op_lt (pv 4) (pe_callB (call_lenK K) (by rfl) T.len PySem.boot_len (pa_cons (pv 1) pa_nil)) (nomark _)) (pw_and1 (pt_val (pe_bm PySem.F.plainAttrs_str PySem.F.slot_str_startswith PySem.F.type_str_startswith mt_starts (pe_ix (ix_listK K) (pv 1) (pv 4) (fun _ _ => rfl)) (pa_cons (pv 5) pa_nil))))))
          (pss_cons (ps_expr (pe_bm PySem.F.plainAttrs_list PySem.F.slot_list_append PySem.F.type_list_append mt_append (pv 3) (pa_cons (pe_def DP hr rfl (pa_cons (pe_slice sl_str (pe_ix (ix_listK K) (pv 1) (pv 4) (fun _ _ => rfl)) (po_some pe_int) po_none) pa_nil)) pa_nil)))
            (pss_one (ps_set (i := 4) scRTerm.nd rfl (Or.inl rfl) (pe_op op_add (pv 4) pe_int))))
          (pss_one (ps_expr (pe_bm PySem.F.plainAttrs_list PySem.F.slot_list_append PySem.F.type_list_append mt_append (pv 3) (pa_cons pe_int pa_nil)))))))
      (pss_cons (ps_if (pt_cmpR op_lt (pv 4) (pe_callB (call_lenK K) (by rfl) T.len PySem.boot_len (pa_cons (pv 1) pa_nil)) (nomark _)) pss_never pss_nil)
      (pss_one (ps_ret (pe_tup (pa_cons (pe_ix (ix_listK K) (pv 3) pe_int (fun _ _ => rfl)) (pa_cons (pe_ix (ix_listK K) (pv 3) pe_int (fun _ _ => rfl)) (pa_cons (pv 2) pa_nil))))))))))), ?_⟩
    have L := tm_len ok
    refine seq_abs fun M hM => ?_
    refine ⟨_, rfl, rfl, _, 42, rfl, congrArg (fun z => [V.str z]) lit_star, by decide, by rw [mkS_len]; lia, fun fl hfl => ?_⟩
    rw [mkS_list, split_star]
    have s1 := Same.new (o := HO.lst (vsC (facC t))) hfl
    have h1 : (upd H fl (.lst (vsC (facC t)))) fl = some (.lst (vsC (facC t))) := upd_same
    change M _ (upd H fl (.lst (vsC (facC t))))
    generalize upd H fl (.lst (vsC (facC t))) = H1 at s1 h1 ⊢
    refine hM _ _ ?_
    clear hM M
    refine seq_abs fun M hM => ?_
    refine ⟨_, rfl, fl, _, _, _, rfl, rfl, SqL.of h1, vs_at (F := facC t) (pre := []) (w := decC t.2.2) rfl, t.2.2, rfl, ok.nz, ok.ab, fun H2 s2 => ?_⟩
    have s02 := s1.trans s2
    have h2 := s2 _ _ h1
    try dsimp only [List.set]
    refine hM _ _ ?_
    clear hM M
    refine ⟨Nat.zero_le _, fun pl hpl => ?_⟩
    have s3 := Same.new (o := HO.lst (([] : List Int).map V.int)) hpl
    have h3 : (upd H2 pl (.lst (([] : List Int).map V.int))) pl = some (.lst (([] : List Int).map V.int)) := upd_same
    change tSeq _ _ _ _ (upd H2 pl (.lst (([] : List Int).map V.int)))
    have npl : fl ≠ pl := ne_of_none h2 hpl
    have hplH : H pl = none := by
      cases e : H pl with
      | none => rfl
      | some o => exact absurd (s02 _ _ e) (by rw [hpl]; intro z; cases z)
    have s03 := s02.trans s3
    have hf3 := s3 _ _ h2
    generalize upd H2 pl (.lst (([] : List Int).map V.int)) = H3 at s3 h3 s03 hf3 ⊢
    try dsimp only [List.set]
    show tSeq _ _ _ _ H3
    refine seq_abs fun M hM => ?_
    refine hM _ _ ?_
    clear hM M
    refine seq_abs fun M hM => ?_
    refine hM _ _ ?_
    clear hM M
    refine seq_abs fun M hM => ?_
    refine ⟨by show 2 <= sizeLine; decide, fun tt htt => ⟨tt, rfl, ⟨_, SqT.of upd_same⟩, ?_⟩⟩
    have s4 := Same.new (o := HO.tup [V.str "x", V.str "y"]) htt
    have h4 : (upd H3 tt (.tup [V.str "x", V.str "y"])) tt = some (.tup [V.str "x", V.str "y"]) := upd_same
    have hf4 := s4 _ _ hf3
    have hp4 := s4 _ _ h3
    have s04 := s03.trans s4
    have ntp : tt ≠ pl := fun z => by rw [z, h3] at htt; cases htt
    generalize upd H3 tt (.tup [V.str "x", V.str "y"]) = H4 at s4 h4 hf4 hp4 s04 ⊢
    refine for_seq (k := .t) (K := K) (a := tt) (xs := [V.str "x", V.str "y"]) (fun i σ H' => (∃ u, σ = [some (.str (mkS (tmC t))), some (.ref fl), some (.int t.2.2), some (.ref pl), some (.int (atF t i)), u]) /\ Same H H' /\ H' fl = some (.lst (vsC (facC t))) /\ H' tt = some (.tup [V.str "x", V.str "y"]) /\ H' pl = some (.lst ((pwF t i).map V.int)))
      ⟨⟨_, rfl⟩, s04, hf4, h4, hp4⟩ (fun i σ H' _ z => SqT.of z.2.2.2.1) ?_ ?_
    · rintro i x σ H5 hx ⟨⟨u5, rfl⟩, sm, hf5, ht5, hp5⟩
      obtain ⟨u, k, pre, post, rfl, eF, el, ea, ep, k0, k6, hpo⟩ := fac_at ok hx
      have fl3 : (facC t).length <= 3 := by
        have := fac_len t
        have := xf_len 120 t.1
        have := xf_len 121 t.2.1
        lia
      have vl : (vsC (facC t)).length = (facC t).length := List.length_map ..
      have pw2 : (pwF t i).length <= 2 := by
        match i with
        | 0 => exact Nat.zero_le _
        | 1 => exact Nat.le_succ _
        | i + 2 => exact Nat.le_refl _
      dsimp only [gName, List.set]
      refine ⟨_, rfl, _, rfl, fl, _, rfl, .inl (SqL.of hf5), _, _, rfl, rfl, _, rfl, ?_⟩
      rw [vl, <- el]
      have keep : ∀ (v : Int), Same H (upd H5 pl (.lst ((pwF t i).map V.int ++ [.int v]))) /\ (upd H5 pl (.lst ((pwF t i).map V.int ++ [.int v]))) fl = some (.lst (vsC (facC t))) /\ (upd H5 pl (.lst ((pwF t i).map V.int ++ [.int v]))) tt = some (.tup [V.str "x", V.str "y"]) := fun v => by
        refine ⟨fun b o e => ?_, ?_, ?_⟩
        · rw [upd_ne (ne_of_none e hplH)]
          exact sm b o e
        · rw [upd_ne npl]; exact hf5
        · rw [upd_ne ntp]; exact ht5
      by_cases hk : k = 0
      · subst hk
        have e0 : xfC u 0 = [] := rfl
        rw [e0, List.nil_append] at eF
        have ea : atF t (i + 1) = pre.length := by rw [ea, el, e0]; rfl
        cases post with
        | nil =>
          have fl2 : (facC t).length = pre.length := by rw [eF, List.append_nil]
          rw [fl2, decide_eq_false (Int.lt_irrefl _)]
          refine iteF (iteF ⟨_, rfl, .inl ⟨rfl, _, SqL.of hp5⟩, pl, _, _, rfl, rfl, hp5, ?_, ?_⟩)
          · rw [List.length_map]; exact lt_line (by lia)
          · obtain ⟨a1, a2, a3⟩ := keep 0
            exact ⟨⟨_, by rw [ea]⟩, a1, a2, a3, by rw [upd_same, ep, List.map_append]; rfl⟩
        | cons w r =>
          have lt : pre.length < (facC t).length := by rw [eF, List.length_append, List.length_cons]; lia
          rw [decide_eq_true (by lia)]
          refine iteT ⟨_, rfl, _, rfl, fl, _, _, _, rfl, rfl, SqL.of hf5, vs_at eF, rfl, _, rfl, _, _, rfl, rfl, _, rfl, ?_⟩
          rw [starts_one]
          have hw := hpo w (List.mem_cons_self ..)
          rw [show (w.head? == some u) = false from by rw [beq_eq_false_iff_ne]; exact hw]
          refine iteF ⟨_, rfl, .inl ⟨rfl, _, SqL.of hp5⟩, pl, _, _, rfl, rfl, hp5, ?_, ?_⟩
          · rw [List.length_map]; exact lt_line (by lia)
          · obtain ⟨a1, a2, a3⟩ := keep 0
            exact ⟨⟨_, by rw [ea]⟩, a1, a2, a3, by rw [upd_same, ep, List.map_append]; rfl⟩
      · have e1 : xfC u k = [u :: pwK k] := if_neg hk
        rw [e1, List.singleton_append] at eF
        have ea : atF t (i + 1) = pre.length + 1 := by rw [ea, el, e1]; rfl
        have lt : pre.length < (facC t).length := by rw [eF, List.length_append, List.length_cons]; lia
        have kl := pwK_len k0 k6
        rw [decide_eq_true (by lia)]
        refine iteT ⟨_, rfl, _, rfl, fl, _, _, _, rfl, rfl, SqL.of hf5, vs_at eF, rfl, _, rfl, _, _, rfl, rfl, _, rfl, ?_⟩
        rw [starts_one, show ((u :: pwK k).head? == some u) = true from by simp]
        refine iteT ⟨_, rfl, .inl ⟨rfl, _, SqL.of hp5⟩, _, rfl, _, rfl, fl, _, _, _, rfl, rfl, SqL.of hf5, vs_at eF, _, rfl, _, rfl, by rw [mkS_len, List.length_cons]; exact line_of (by lia), ?_⟩
        rw [slice_one]
        refine ⟨k, rfl, by lia, k6, fun H6 s6 => ?_⟩
        have hp6 := s6 _ _ hp5
        refine ⟨pl, _, _, rfl, rfl, hp6, ?_, ?_⟩
        · rw [List.length_map]; exact lt_line (by lia)
        refine ⟨_, rfl, _, _, rfl, rfl, ⟨some (.str (mkS [u])), ?_⟩, fun b o e => ?_, ?_, ?_, ?_⟩
        · rw [ea]
          rfl
        · rw [upd_ne (ne_of_none e hplH)]
          exact s6 _ _ (sm b o e)
        · rw [upd_ne npl]; exact s6 _ _ hf5
        · rw [upd_ne ntp]; exact s6 _ _ ht5
        · rw [upd_same, ep, List.map_append]; rfl
    · rintro σ H5 ⟨⟨u5, rfl⟩, sm, hf5, ht5, hp5⟩
      refine hM _ _ ?_
      clear hM M
      have vl : (vsC (facC t)).length = (facC t).length := List.length_map ..
      refine ⟨_, rfl, _, rfl, fl, _, rfl, .inl (SqL.of hf5), _, _, rfl, rfl, _, rfl, ?_⟩
      rw [vl, fac_len]
      show (if decide ((((1 + (xfC 120 t.1).length + (xfC 121 t.2.1).length : Nat)) : Int) < ((1 + (xfC 120 t.1).length + (xfC 121 t.2.1).length : Nat) : Int)) = true then _ else _)
      rw [decide_eq_false (Int.lt_irrefl _)]
      refine iteF ⟨_, rfl, pl, _, _, _, rfl, rfl, SqL.of hp5, atI_nat (j := 0) rfl, _, rfl, pl, _, _, _, rfl, rfl, SqL.of hp5, atI_nat (j := 1) rfl, _, rfl, by show 3 <= sizeLine; decide, fun d hd => ?_⟩
      exact q d _ (sm.trans (Same.new hd)) upd_same
end
end My
namespace My
open PySem L2 PySem.NumText PyProof.Rows
def spRPoly : Sp := fun vs H Q _ => ∃ L : List T3, vs = [.str (mkS (polyC L))] /\ (∀ t ∈ L, TmOk t) /\ L.Pairwise keyLt /\ L.length <= 100 /\ ∀ v H', Same H H' -> PolyAt H' v L -> Q v H'
def spPwText : Sp := fun vs H Q _ => ∃ (u : Nat) (k : Int), vs = [.str (mkS [u]), .int k] /\ 0 <= k /\ k <= 60 /\ ∀ H', Same H H' -> Q (.str (mkS (pwC u k))) H'
def spPText (K : W.Frag) : Sp := fun vs H Q _ => ∃ (v : V) (L : List T3), vs = [v] /\ PolyAt H v L /\ (∀ t ∈ L, TmOk t) /\ L.length <= 100 /\ ∀ H', Same H H' -> Q (.str (mkS (polyC L))) H'
theorem log_small {n : Int} (h : n.natAbs < 10 ^ 60) : n.natAbs.log2 < 1920 := by
  by_cases z : n.natAbs = 0
  · rw [z]; decide
  · refine (Nat.log2_lt z).mpr (Nat.lt_trans h ?_)
    decide +kernel
theorem small60 {k : Int} (h0 : 0 <= k) (h6 : k <= 60) : k.natAbs < 10 ^ 60 := Nat.lt_of_le_of_lt (show k.natAbs <= 60 by lia) (by decide)
theorem keyLt_ge {t1 t2 : T3} (lt : keyLt t1 t2) : lexGe (decide (([t2.1, t2.2.1] : List Int).length <= ([t1.1, t1.2.1] : List Int).length)) [t1.1, t1.2.1] [t2.1, t2.2.1] = false := ge_no lt
theorem k_str (K : W.Frag) : PySem.W.kitOne K (.type "str") (.type "str") = some true := by first | rfl | decide +kernel
theorem kind_sep : Builtin.Str.strKind (" + " : Str) = 1 := by decide +kernel
theorem cut_one (xs : List V) (x : V) : cutV (x :: xs) (some 1) none = xs := by
  unfold cutV
  have e1' : HT.sIx (x :: xs).length 0 (some 1) = min 1 (x :: xs).length := HT.sIx_nat (x :: xs).length 0 1
  have e2' : HT.sIx (x :: xs).length (x :: xs).length none = (x :: xs).length := rfl
  rw [e1', e2']
  simp
section
variable {P : Program} {w : World} {K : W.Frag} {mg : Str -> Option Value} {base : Heap}
theorem scRPoly : FnScope ["text", "words", "terms", "term", "behind"] ["text"] (defScope sRPoly) := ⟨rfl, rfl, rfl, by decide +kernel, rfl, by decide +kernel, by decide +kernel⟩
theorem ndw : (["word"] : List Str).Nodup := by decide +kernel
theorem d_rpoly (T : TxP mg) (T2 : Tx26 mg) (S : Src K mg "read_poly" sRPoly ["text"]) (DT : Def P w K mg base 3 "read_term" ["word"] spRTerm) : Def P w K mg base 4 "read_poly" ["text"] spRPoly := by
  refine S.def scRPoly (fun vs H Q E h => ?_) (fun f cdv A outer s H vs Q E hr h => ?_)
  · obtain ⟨_, rfl, _⟩ := h; rfl
  · obtain ⟨L, rfl, ok, up, l100, q⟩ := h
    obtain ⟨tm, mter⟩ := T2.mter
    refine ⟨_, pss_cons (ps_if (pt_not (pt_val (pe_callB (call_isiK K) (by rfl) T.isi boot_isi (pa_cons (pv 0) (pa_cons (pe_bltn (v := .ty "str") rfl T2.str boot_str' rfl) pa_nil))))) pss_never pss_nil)
      (pss_cons (ps_if (pt_cmpR op_eq (pv 0) pe_str (nomark _)) (pss_one (ps_ret (pe_tup pa_nil))) pss_nil)
      (pss_cons (ps_set (i := 1) scRPoly.nd rfl (Or.inl rfl) (pe_bm PySem.F.plainAttrs_str PySem.F.slot_str_split PySem.F.type_str_split mt_splitG (pv 0) (pa_cons pe_str pa_nil)))
      (pss_cons (ps_if (pt_cmpR op_gt (pe_callB (call_lenK K) (by rfl) T.len PySem.boot_len (pa_cons (pv 1) pa_nil)) (pe_glob (v := .int 100) rfl mter ⟨_, rfl⟩) (nomark _)) pss_never pss_nil)
      (pss_cons (ps_setComp (i := 2) scRPoly.nd rfl (Or.inl rfl) (N' := ["word"]) (fr := [none]) (compOk_of (by rfl)) rfl (pi_seqK K .l (pv 1))
        (fun _ _ _ _ => pg_name (i := 0) ndw rfl (Or.inl rfl) (Or.inr rfl)) (fun _ _ _ _ => pifs_nil) (fun _ _ _ _ => pe_def DT hr rfl (pa_cons (pv 0) pa_nil)))
      (pss_cons (ps_for PassesOwn.never rfl (pi_zip2 .l .l rfl T2.zip (pa_cons (pv 2) (pa_cons (pe_slice (sl_listK K) (pv 2) (po_some pe_int) po_none) pa_nil))) (pg_tupK K 2 rfl (pgs_cons (pg_name (i := 3) scRPoly.nd rfl (Or.inl rfl)) (pgs_cons (pg_name (i := 4) scRPoly.nd rfl (Or.inl rfl)) pgs_nil)))
        (pss_one (ps_if (pt_cmpR (op_geTK K (units66 hr)) (pe_slice (sl_tupK K) (pv 3) po_none (po_some pe_int)) (pe_slice (sl_tupK K) (pv 4) po_none (po_some pe_int)) (nomark _)) pss_never pss_nil)))
      (pss_one (ps_ret (pe_callTy (call_tuple_ofK K) rfl T.tuple boot_tuple' (pa_cons (pv 2) pa_nil))))))))), ?_⟩
    refine ⟨_, rfl, _, _, _, _, _, rfl, rfl, .str _, k_str K, _, rfl, iteF ?_⟩
    refine ⟨_, rfl, rfl, _, rfl, ?_⟩
    rw [lit_zero]
    cases L with
    | nil =>
      rw [decide_eq_true (show V.str (mkS (polyC [])) = V.str (mkS [48]) from rfl)]
      refine iteT ⟨Nat.zero_le _, fun c hc => ?_⟩
      exact q (.ref c) _ (Same.new hc) ⟨c, [], rfl, upd_same, .nil⟩
    | cons t0 L0 =>
      rw [decide_eq_false (show ¬ V.str (mkS (polyC (t0 :: L0))) = V.str (mkS [48]) from fun z => poly_first (ok t0 (List.mem_cons_self ..)).nz (by injection z))]
      have eC : polyC (t0 :: L0) = glue3 ((t0 :: L0).map tmC) := if_neg (by simp)
      generalize hL : t0 :: L0 = L at ok up l100 q eC
      have Lne : L ≠ [] := by rw [<- hL]; simp
      have Cl : (polyC L).length <= 100 * 74 := by
        rw [eC]
        refine Nat.le_trans (glue3_len (k := 71) fun w hw => ?_) ?_
        · obtain ⟨t, ht, rfl⟩ := List.mem_map.mp hw
          exact tm_len (ok t ht)
        · rw [List.length_map]
          exact Nat.mul_le_mul_right _ l100
      refine iteF (seq_abs fun M hM => hM _ _ ?_)
      refine seq_abs fun M hM => ?_
      refine ⟨_, rfl, rfl, mkS (polyC L), " + ", (L.map tmC).map mkS, rfl, rfl, kind_sep, by decide +kernel, by rw [mkS_len]; lia, by rw [List.length_map, List.length_map]; lia, ?_, fun wl hwl => ?_⟩
      · refine split3 (by decide +kernel) (by intro z; exact Lne (List.map_eq_nil_iff.mp z)) (fun w hw => ?_) (by rw [mkS_list, eC])
        obtain ⟨t, ht, rfl⟩ := List.mem_map.mp hw
        exact tm_free t
      have s1 := Same.new (o := HO.lst (((L.map tmC).map mkS).map V.str)) hwl
      have h1 : (upd H wl (.lst (((L.map tmC).map mkS).map V.str))) wl = some (.lst (L.map fun t => V.str (mkS (tmC t)))) := by rw [upd_same, List.map_map, List.map_map]; rfl
      generalize upd H wl (.lst (((L.map tmC).map mkS).map V.str)) = H1 at s1 h1 ⊢
      refine hM _ _ ?_
      clear hM M
      refine seq_abs fun M hM => ?_
      refine ⟨_, rfl, wl, _, rfl, .inl (SqL.of h1), _, _, rfl, rfl, _, rfl, ?_⟩
      rw [List.length_map, decide_eq_false (show ¬ (100 : Int) < (L.length : Int) by lia)]
      refine iteF (hM _ _ ?_)
      clear hM M
      refine seq_abs fun M hM => ?_
      refine ⟨_, rfl, wl, rfl, ⟨_, SqL.of h1⟩, comp_seq (k := .l) (a := wl) (xs := L.map fun t => V.str (mkS (tmC t))) (fun σ => ∃ v, σ = [v]) (fun i ys H' => Same H1 H' /\ Paired (TermAt H') ys (L.take i)) ⟨_, rfl⟩ ⟨Same.refl _, .nil⟩ (by rw [List.length_map]; exact lt_line (by lia)) (fun i ys H' _ z => SqL.of (z.1 _ _ h1)) ?_ ?_⟩
      · rintro i x ys σ H2 N hx ⟨u, rfl⟩ ⟨sm, py⟩ hN
        obtain ⟨t, et, rfl⟩ : ∃ t, L[i]? = some t /\ V.str (mkS (tmC t)) = x := by
          rw [List.getElem?_map] at hx
          cases e : L[i]? with
          | none => rw [e] at hx; cases hx
          | some t => rw [e] at hx; exact ⟨t, rfl, Option.some.inj hx⟩
        dsimp only [gName, List.set]
        refine yesT ⟨_, rfl, t, rfl, ok t (List.mem_of_getElem? et), fun d H3 s3 hd => ?_⟩
        refine hN _ _ _ ⟨_, rfl⟩ ⟨sm.trans s3, ?_⟩ (by simp)
        rw [take_succ_of et]
        exact L2.Paired.snoc (terms_same py s3) ⟨d, rfl, hd⟩
      · rintro ys H2 ⟨sm, py⟩ tl htl
        rw [List.length_map, List.take_length] at py
        have s2 := Same.new (o := HO.lst ys) htl
        have h2 : (upd H2 tl (.lst ys)) tl = some (.lst ys) := upd_same
        have py := terms_same py s2
        have s02 := s1.trans (sm.trans s2)
        generalize upd H2 tl (.lst ys) = H3 at s2 h2 py s02 ⊢
        refine hM _ _ ?_
        clear hM M
        have yl := Paired.length py
        obtain ⟨y0, ys0, ey⟩ : ∃ y0 ys0, ys = y0 :: ys0 := by
          cases ys with
          | nil => exact absurd (List.length_eq_zero_iff.mp yl.symm) Lne
          | cons y0 ys0 => exact ⟨y0, ys0, rfl⟩
        refine seq_abs fun M hM => ?_
        refine ⟨_, rfl, _, rfl, _, rfl, tl, _, rfl, SqL.of h2, fun bl hbl => ?_⟩
        have ec : cutV ys (some 1) none = ys0 := by rw [ey]; exact cut_one ys0 y0
        rw [ec]
        have s4 := Same.new (o := HO.lst ys0) hbl
        have h4 : (upd H3 bl (.lst ys0)) bl = some (.lst ys0) := upd_same
        have h24 := s4 _ _ h2
        have py4 := terms_same py s4
        have s04 := s02.trans s4
        generalize upd H3 bl (.lst ys0) = H4 at s4 h4 h24 py4 s04 ⊢
        refine ⟨tl, bl, _, _, rfl, SqL.of h24, SqL.of h4, for_zip2 (k1 := .l) (k2 := .l) (K := K) (a := tl) (b := bl) (xs := ys) (ys := ys0) (fun i σ H' => (∃ u v, σ = [some (.str (mkS (polyC L))), some (.ref wl), some (.ref tl), u, v]) /\ Same H4 H') ⟨⟨_, _, rfl⟩, Same.refl _⟩ (fun i σ H' _ z => ⟨SqL.of (z.2 _ _ h24), SqL.of (z.2 _ _ h4)⟩) (by rw [ey, List.length_cons]; lia) ?_ ?_⟩
        · rintro i x y p σ H5 hx hy ⟨⟨u, v, rfl⟩, sm5⟩ hp
          have hy' : ys[i + 1]? = some y := by rw [ey]; exact hy
          obtain ⟨t1, e1, b1, rfl, hb1⟩ := Paired.at py4 hx
          obtain ⟨t2, e2, b2, rfl, hb2⟩ := Paired.at py4 hy'
          have lt : keyLt t1 t2 := by
            have l1 := (List.getElem?_eq_some_iff.mp e1).1
            have l2 := (List.getElem?_eq_some_iff.mp e2).1
            have g1 : L[i] = t1 := (List.getElem?_eq_some_iff.mp e1).2
            have g2 : L[i + 1] = t2 := (List.getElem?_eq_some_iff.mp e2).2
            have := List.pairwise_iff_getElem.mp up i (i + 1) l1 l2 (by lia)
            rw [g1, g2] at this
            exact this
          have sp := Same.new (o := HO.tup [.ref b1, .ref b2]) hp
          have hp' : (upd H5 p (.tup [.ref b1, .ref b2])) p = some (.tup [.ref b1, .ref b2]) := upd_same
          have s5p := sm5.trans sp
          generalize upd H5 p (.tup [.ref b1, .ref b2]) = H6 at sp hp' s5p ⊢
          refine ⟨p, _, rfl, SqT.of hp', rfl, _, _, rfl, _, _, rfl, rfl, ?_⟩
          dsimp only [List.set]
          refine ⟨_, rfl, _, rfl, b1, _, rfl, SqT.of (s5p _ _ hb1), not2 _ _ _, fun p1 hp1 => ?_⟩
          rw [cut2]
          have s7 := Same.new (o := HO.tup [.int t1.1, .int t1.2.1]) hp1
          have h7 : (upd H6 p1 (.tup [.int t1.1, .int t1.2.1])) p1 = some (.tup [.int t1.1, .int t1.2.1]) := upd_same
          generalize upd H6 p1 (.tup [.int t1.1, .int t1.2.1]) = H7 at s7 h7 ⊢
          refine ⟨_, rfl, _, rfl, b2, _, rfl, SqT.of (s7 _ _ (s5p _ _ hb2)), not2 _ _ _, fun p2 hp2 => ?_⟩
          rw [cut2]
          have s8 := Same.new (o := HO.tup [.int t2.1, .int t2.2.1]) hp2
          refine ⟨p1, p2, [t1.1, t1.2.1], [t2.1, t2.2.1], rfl, rfl, SqT.of (s8 _ _ h7), SqT.of upd_same, _, rfl, ?_⟩
          rw [keyLt_ge lt]
          exact iteF ⟨⟨_, _, rfl⟩, s5p.trans (s7.trans s8)⟩
        · rintro σ H5 ⟨⟨u, v, rfl⟩, sm5⟩
          refine hM _ _ ?_
          clear hM M
          refine ⟨_, rfl, tl, ys, rfl, .inl ⟨SqL.of (sm5 _ _ h24), fun c hc => ?_⟩⟩
          have s6 := Same.new (o := HO.tup ys) hc
          exact q (.ref c) _ (s04.trans (sm5.trans s6)) ⟨c, ys, rfl, upd_same, terms_same py4 (sm5.trans s6)⟩
end
end My
namespace My
open PySem L2 PySem.NumText PyProof.Rows
theorem empty_mk : Str.empty = mkS [] := rfl
theorem len_mk {l : List Nat} (h : l.length <= 100000) : (mkS l).length <= sizeLine := by rw [mkS_len]; exact line_of h
theorem f1 (u : Nat) : (Str.empty ++ ("*" : Str)) = mkS [42] /\ ((Str.empty ++ ("*" : Str)) ++ mkS [u]) = mkS [42, u] /\ (((Str.empty ++ ("*" : Str)) ++ mkS [u]) ++ ("^" : Str)) = mkS [42, u, 94] := by
  rw [lit_star, lit_hat, empty_mk, mk_app, mk_app, mk_app]
  exact ⟨rfl, rfl, rfl⟩
theorem pw_zero (u : Nat) : pwC u 0 = [] := rfl
theorem pw_one (u : Nat) : pwC u 1 = [42, u] := rfl
theorem pw_more {u : Nat} {k : Int} (h0 : k ≠ 0) (h1 : k ≠ 1) : pwC u k = [42, u, 94] ++ decC k := by
  unfold pwC pwK
  rw [if_neg h0, if_neg h1]
  rfl
theorem int_dec (a b : Int) : decide (V.int a = V.int b) = decide (a = b) := by
  rw [decide_eq_decide]
  exact ⟨fun z => by injection z, fun z => by rw [z]⟩
theorem sum_len : ∀ {ws : List (List Nat)} {k : Nat}, (∀ w ∈ ws, w.length <= k) -> ((ws.map mkS).map (·.length)).sum <= ws.length * k
  | [], _, _ => Nat.zero_le _
  | w :: ws, k, h => by
    have h1 := h w (List.mem_cons_self ..)
    have ih := sum_len (ws := ws) (k := k) fun w hw => h w (List.mem_cons_of_mem _ hw)
    rw [List.map_cons, List.map_cons, List.sum_cons, mkS_len, List.length_cons, Nat.add_mul, Nat.one_mul, Nat.add_comm]
    exact Nat.add_le_add ih h1
section
variable {P : Program} {w : World} {K : W.Frag} {mg : Str -> Option Value} {base : Heap}
theorem scPw : FnScope ["unknown", "power"] ["unknown", "power"] (defScope sPwText) := ⟨rfl, rfl, rfl, by decide +kernel, rfl, by decide +kernel, by decide +kernel⟩
theorem d_pw26 (S : Src K mg "power_text" sPwText ["unknown", "power"]) : Def P w K mg base 1 "power_text" ["unknown", "power"] spPwText := by
  refine S.def scPw (fun vs H Q E h => ?_) (fun f cdv A outer s H vs Q E hr h => ?_)
  · obtain ⟨_, _, rfl, _⟩ := h; rfl
  · obtain ⟨u, k, rfl, k0, k6, q⟩ := h
    refine ⟨_, pss_cons (ps_if (pt_cmpR op_eq (pv 1) pe_int (nomark _)) (pss_one (ps_ret pe_str)) pss_nil)
      (pss_cons (ps_if (pt_cmpR op_eq (pv 1) pe_int (nomark _)) (pss_one (ps_ret (pe_joined (pj_cons pe_str (pj_cons (pe_fstr (pv 0)) pj_nil))))) pss_nil)
      (pss_one (ps_ret (pe_joined (pj_cons pe_str (pj_cons (pe_fstr (pv 0)) (pj_cons pe_str (pj_cons (pe_fint (pv 1)) pj_nil)))))))), ?_⟩
    obtain ⟨g1, g2, g3⟩ := f1 u
    have L1 : (mkS [u]).length <= sizeLine := len_mk (Nat.le_trans (show [u].length <= 1 from Nat.le_refl _) (by decide))
    have L2' : (mkS [42]).length <= sizeLine := len_mk (by decide)
    have L3 : (mkS [42, u]).length <= sizeLine := len_mk (Nat.le_trans (show [42, u].length <= 2 from Nat.le_refl _) (by decide))
    have L4 : (mkS [42, u, 94]).length <= sizeLine := len_mk (Nat.le_trans (show [42, u, 94].length <= 3 from Nat.le_refl _) (by decide))
    refine ⟨_, rfl, rfl, _, rfl, ?_⟩
    rw [int_dec]
    by_cases z : k = 0
    · rw [decide_eq_true z]
      subst z
      rw [pw_zero] at q
      refine iteT ?_
      show Q (.str "") H
      rw [lit_none]
      exact q H (Same.refl _)
    · rw [decide_eq_false z]
      refine iteF ⟨_, rfl, rfl, _, rfl, ?_⟩
      rw [int_dec]
      by_cases y : k = 1
      · rw [decide_eq_true y]
        subst y
        rw [pw_one] at q
        refine iteT ⟨_, rfl, by rw [g1]; exact L2', _, rfl, _, rfl, L1, _, rfl, by rw [g2]; exact L3, by rw [g2]; exact L3, ?_⟩
        rw [g2]
        exact q H (Same.refl _)
      · rw [decide_eq_false y]
        have kb := small60 k0 k6
        have e : ((((Str.empty ++ ("*" : Str)) ++ mkS [u]) ++ ("^" : Str)) ++ (toString k : Str)) = mkS (pwC u k) := by
          rw [g3, pw_more z y]
          show mkS [42, u, 94] ++ (Str.ofString (toString k)) = _
          rw [dec_str, mk_app]
        have Lk : (mkS (pwC u k)).length <= sizeLine := len_mk (Nat.le_trans (pwC_len k0 k6) (by decide))
        refine iteF ⟨_, rfl, by rw [g1]; exact L2', _, rfl, _, rfl, L1, _, rfl, by rw [g2]; exact L3, _, rfl, by rw [g3]; exact L4, _, rfl, k, rfl, log_small kb, _, rfl, by rw [e]; exact Lk, by rw [e]; exact Lk, ?_⟩
        rw [e]
        exact q H (Same.refl _)
theorem scPT : FnScope ["poly"] ["poly"] (defScope sPText) := ⟨rfl, rfl, rfl, by decide +kernel, rfl, by decide +kernel, by decide +kernel⟩
theorem ndijt : (["i", "j", "times"] : List Str).Nodup := by decide +kernel
theorem d_ptext (S : Src K mg "poly_text" sPText ["poly"]) (DP : Def P w K mg base 1 "power_text" ["unknown", "power"] spPwText) : Def P w K mg base 2 "poly_text" ["poly"] (spPText K) := by
  refine S.def scPT (fun vs H Q E h => ?_) (fun f cdv A outer s H vs Q E hr h => ?_)
  · obtain ⟨_, _, rfl, _⟩ := h; rfl
  · obtain ⟨v, L, rfl, pa, ok, l100, q⟩ := h
    obtain ⟨c, rs, rfl, hc, ht⟩ := pa.ex
    have rl : rs.length = L.length := Paired.length ht
    refine ⟨_, pss_cons (ps_if (pt_not (pt_truth (pv 0) (fun _ => rfl))) (pss_one (ps_ret pe_str)) pss_nil)
      (pss_one (ps_ret (pe_bm PySem.F.plainAttrs_str PySem.F.slot_str_join PySem.F.type_str_join mt_join pe_str (pa_cons (pe_comp (N' := ["i", "j", "times"]) (fr := [none, none, none]) (compOk_of (by rfl)) rfl (pi_seqK K .t (pv 0))
        (g := gTup K 3 (gCons (gName 0) (gCons (gName 1) (gCons (gName 2) gNil)))) (fun _ _ _ _ => pg_tupK K 3 rfl (pgs_cons (pg_name (i := 0) ndijt rfl (Or.inl rfl) (Or.inr rfl)) (pgs_cons (pg_name (i := 1) ndijt rfl (Or.inl rfl) (Or.inr rfl)) (pgs_cons (pg_name (i := 2) ndijt rfl (Or.inl rfl) (Or.inr rfl)) pgs_nil))))
        (fun _ _ _ _ => pifs_nil) (fun _ _ _ _ => pe_op op_add_str (pe_op op_add_str (pe_joined1 (pe_fint (pv 2))) (pe_def DP hr rfl (pa_cons pe_str (pa_cons (pv 0) pa_nil)))) (pe_def DP hr rfl (pa_cons pe_str (pa_cons (pv 1) pa_nil))))) pa_nil)))), ?_⟩
    refine ⟨_, rfl, _, .inr (.inl ⟨rs, SqT.of hc, rfl⟩), ?_⟩
    cases L with
    | nil =>
      have e : rs = [] := List.length_eq_zero_iff.mp rl
      rw [e]
      refine iteT ?_
      show Q (.str "0") H
      rw [lit_zero]
      exact q H (Same.refl _)
    | cons t0 L0 =>
      have e : rs.isEmpty = false := by
        cases rs with
        | nil => cases rl
        | cons _ _ => rfl
      rw [e]
      generalize hL : t0 :: L0 = L at ht ok l100 q rl
      have Lne : L ≠ [] := by rw [<- hL]; simp
      refine iteF ⟨rfl, _, rfl, c, rfl, ⟨_, SqT.of hc⟩, comp_seq (k := .t) (a := c) (xs := rs) (fun σ => ∃ u v r, σ = [u, v, r]) (fun i ys H' => Same H H' /\ ys = ((L.take i).map tmC).map fun l => V.str (mkS l)) ⟨_, _, _, rfl⟩ ⟨Same.refl _, rfl⟩ (by rw [rl]; exact lt_line (by lia)) (fun i ys H' _ z => SqT.of (z.1 _ _ hc)) ?_ ?_⟩
      · rintro i x ys σ H2 N hx ⟨u, v, r, rfl⟩ ⟨sm, rfl⟩ hN
        obtain ⟨t, et, b, rfl, hb⟩ := Paired.at ht hx
        have tk := ok t (List.mem_of_getElem? et)
        have tl := tm_len tk
        refine ⟨b, _, rfl, SqT.of (sm _ _ hb), rfl, _, _, rfl, _, _, rfl, _, _, rfl, rfl, ?_⟩
        dsimp only [gName, List.set]
        have l1 := dec_len' tk.ab
        have l2 := pwC_len (u := 120) tk.i0 tk.i6
        have l3 := pwC_len (u := 121) tk.j0 tk.j6
        have ed : (toString t.2.2 : Str) = mkS (decC t.2.2) := dec_str _
        refine yesT ⟨_, rfl, _, rfl, log_small tk.ab, _, rfl, 120, t.1, by rw [lit_x]; rfl, tk.i0, tk.i6, fun H3 s3 => ?_⟩
        refine ⟨_, _, rfl, rfl, ?_, _, rfl, 121, t.2.1, by rw [lit_y]; rfl, tk.j0, tk.j6, fun H4 s4 => ?_⟩
        · rw [ed, mkS_len, mkS_len]; exact line_of (by lia)
        rw [ed, mk_app]
        refine ⟨_, _, rfl, rfl, ?_, ?_⟩
        · rw [mkS_len, mkS_len, List.length_append]; exact line_of (by lia)
        rw [mk_app]
        refine hN _ _ _ ⟨_, _, _, rfl⟩ ⟨sm.trans (s3.trans s4), ?_⟩ (by simp)
        rw [take_succ_of et, List.map_append, List.map_append]
        rfl
      · rintro ys H2 ⟨sm, rfl⟩ p hp
        rw [rl, List.take_length]
        refine ⟨" + ", p, (L.map tmC).map mkS, rfl, rfl, SqL.of (by rw [upd_same, List.map_map (g := V.str)]; rfl), ?_, ?_⟩
        · have a1 := sum_len (ws := L.map tmC) (k := 71) fun w hw => by
            obtain ⟨t, ht, rfl⟩ := List.mem_map.mp hw
            exact tm_len (ok t ht)
          rw [List.length_map] at a1
          rw [List.length_map, List.length_map, lit_plus, mkS_len]
          show _ + L.length * 3 <= 16777216
          lia
        · rw [join3 (by decide +kernel) (fun z => Lne (List.map_eq_nil_iff.mp z))]
          have e : polyC L = glue3 (L.map tmC) := if_neg Lne
          rw [<- e]
          exact q _ (sm.trans (Same.new hp))
end
end My
namespace My
open PySem L2
def TC (t : T3) : Prop := 0 <= t.1 /\ t.1 <= 20 /\ 0 <= t.2.1 /\ t.2.1 <= 20 /\ t.2.2.natAbs <= 10 ^ 18
theorem p18 : (10 : Int) ^ (18 : Int).toNat = 1000000000000000000 := by decide +kernel
def spDigit : Sp := fun vs H Q _ => ∃ (p : Addr) (c m : Int), vs = [.ref p, .int m] /\ H p = some (.lst [.int c]) /\ 0 < m /\ m.natAbs.log2 < 9000 /\ Q (.int (c % m)) (upd H p (.lst [.int (c / m)]))
def spAny : Sp := fun vs H Q _ => ∃ (p : Addr) (c : Int), vs = [.ref p] /\ H p = some (.lst [.int c]) /\ ∀ (t : T3) d H', (∀ b o, b ≠ p -> H b = some o -> H' b = some o) -> TC t -> H' d = some (.tup [.int t.1, .int t.2.1, .int t.2.2]) -> Q (.ref d) H'
def spTerm : Sp := fun vs H Q _ => ∃ c : Int, vs = [.int c] /\ ∀ (t : T3) d H', Same H H' -> TC t -> H' d = some (.tup [.int t.1, .int t.2.1, .int t.2.2]) -> Q (.ref d) H'
theorem abs18 {z : Int} (h0 : 0 <= z) (h1 : z < 2 * 1000000000000000000) : (z - 1000000000000000000).natAbs <= 10 ^ 18 := by
  have e : (10 : Nat) ^ 18 = 1000000000000000000 := by decide +kernel
  rw [e]
  lia
section
variable {P : Program} {w : World} {K : W.Frag} {mg : Str -> Option Value} {base : Heap}
theorem scDigit : FnScope ["_law_pot", "_law_many", "_law_digit_here"] ["_law_pot", "_law_many"] (defScope sDigit) := ⟨rfl, rfl, rfl, by decide +kernel, rfl, by decide +kernel, by decide +kernel⟩
theorem d_digit (S : Src K mg "_law_digit" sDigit ["_law_pot", "_law_many"]) : Def P w K mg base 1 "_law_digit" ["_law_pot", "_law_many"] spDigit := by
  refine S.def scDigit (fun vs H Q E h => ?_) (fun f cdv A outer s H vs Q E hr h => ?_)
  · obtain ⟨_, _, _, rfl, _⟩ := h; rfl
  · obtain ⟨p, c, m, rfl, hp, m0, ml, q⟩ := h
    refine ⟨_, pss_cons (ps_set (i := 2) scDigit.nd rfl (Or.inl rfl) (pe_op op_mod (pe_ix (ix_listK K) (pv 0) pe_int (fun _ _ => rfl)) (pv 1)))
      (pss_cons (ps_asg (pe_op op_fdivB (pe_ix (ix_listK K) (pv 0) pe_int (fun _ _ => rfl)) (pv 1)) (pg_sub (pv 0) pe_int set_list))
      (pss_one (ps_ret (pv 2)))), ?_⟩
    refine ⟨_, rfl, p, _, _, _, rfl, rfl, SqL.of hp, atI_nat (j := 0) rfl, _, rfl, _, _, rfl, rfl, m0, ?_⟩
    refine ⟨_, rfl, p, _, _, _, rfl, rfl, SqL.of hp, atI_nat (j := 0) rfl, _, rfl, _, _, rfl, rfl, ⟨m0, ml⟩, _, rfl, p, _, 0, 0, rfl, rfl, hp, rfl, ?_⟩
    exact ⟨_, rfl, q⟩
theorem scAny : FnScope ["_law_pot", "_law_i", "_law_j"] ["_law_pot"] (defScope sAny) := ⟨rfl, rfl, rfl, by decide +kernel, rfl, by decide +kernel, by decide +kernel⟩
theorem d_any (S : Src K mg "_law_any_term" sAny ["_law_pot"]) (DD : Def P w K mg base 1 "_law_digit" ["_law_pot", "_law_many"] spDigit) : Def P w K mg base 2 "_law_any_term" ["_law_pot"] spAny := by
  refine S.def scAny (fun vs H Q E h => ?_) (fun f cdv A outer s H vs Q E hr h => ?_)
  · obtain ⟨_, _, rfl, _⟩ := h; rfl
  · obtain ⟨p, c, rfl, hp, q⟩ := h
    refine ⟨_, pss_cons (ps_set (i := 1) scAny.nd rfl (Or.inl rfl) (pe_def DD hr rfl (pa_cons (pv 0) (pa_cons pe_int pa_nil))))
      (pss_cons (ps_set (i := 2) scAny.nd rfl (Or.inl rfl) (pe_def DD hr rfl (pa_cons (pv 0) (pa_cons pe_int pa_nil))))
      (pss_one (ps_ret (pe_tup (pa_cons (pv 1) (pa_cons (pv 2) (pa_cons (pe_op op_sub (pe_def DD hr rfl (pa_cons (pv 0) (pa_cons (pe_op op_mul pe_int (pe_op op_pow pe_int pe_int)) pa_nil))) (pe_op op_pow pe_int pe_int)) pa_nil))))))), ?_⟩
    refine ⟨_, rfl, p, c, 21, rfl, hp, by decide, by decide, ?_⟩
    refine ⟨_, rfl, p, _, 21, rfl, upd_same, by decide, by decide, ?_⟩
    refine ⟨_, rfl, _, rfl, _, rfl, _, _, rfl, rfl, ⟨by decide, by decide, by decide⟩, _, _, rfl, rfl, .inl ⟨by decide, by decide⟩, p, _, _, rfl, upd_same, by rw [p18]; decide, by rw [p18]; decide +kernel, _, _, rfl, rfl, ⟨by decide, by decide, by decide⟩, _, _, rfl, rfl, by show 3 <= sizeLine; decide, fun d hd => ?_⟩
    rw [p18]
    have m1 := mod_in c 21 (by decide)
    have m2 := mod_in (c / 21) 21 (by decide)
    have m3 := mod_in (c / 21 / 21) (2 * 1000000000000000000) (by decide)
    refine q (c % 21, c / 21 % 21, c / 21 / 21 % (2 * 1000000000000000000) - 1000000000000000000) d _ (fun b o hb e => ?_) ⟨m1.1, by show c % 21 <= 20; lia, m2.1, by show c / 21 % 21 <= 20; lia, abs18 m3.1 m3.2⟩ upd_same
    have nd : b ≠ d := fun z => by
      rw [z] at e hb
      rw [p18] at hd
      rw [upd_ne hb, upd_ne hb, upd_ne hb, e] at hd
      cases hd
    rw [upd_ne nd, upd_ne hb, upd_ne hb, upd_ne hb]
    exact e
theorem scTerm : FnScope ["_law_cell", "_law_load", "_law_times"] ["_law_cell"] (defScope sTerm) := ⟨rfl, rfl, rfl, by decide +kernel, rfl, by decide +kernel, by decide +kernel⟩
theorem d_term (S : Src K mg "_law_term" sTerm ["_law_cell"]) (DN : Def P w K mg base 2 "_law_any_term" ["_law_pot"] spAny) : Def P w K mg base 3 "_law_term" ["_law_cell"] spTerm := by
  refine S.def scTerm (fun vs H Q E h => ?_) (fun f cdv A outer s H vs Q E hr h => ?_)
  · obtain ⟨_, rfl, _⟩ := h; rfl
  · obtain ⟨c, rfl, q⟩ := h
    refine ⟨_, pss_cons (ps_if (pt_cmpR op_eq (pe_op op_mod (pv 0) pe_int) pe_int (nomark _)) (pss_one (ps_ret (pe_def DN hr rfl (pa_cons (pe_lst (pa_cons (pe_op op_fdiv (pv 0) pe_int) pa_nil)) pa_nil)))) pss_nil)
      (pss_cons (ps_set (i := 0) scTerm.nd rfl (Or.inl rfl) (pe_op op_fdiv (pv 0) pe_int))
      (pss_cons (ps_set (i := 1) scTerm.nd rfl (Or.inl rfl) (pe_op op_fdiv (pv 0) pe_int))
      (pss_cons (ps_set (i := 2) scTerm.nd rfl (Or.inl rfl) (pe_ix (ix_listK K) (pe_lst (pa_cons (pe_op op_sub (pe_op op_mod (pe_op op_fdiv (pv 1) pe_int) pe_int) pe_int) (pa_cons (pe_op op_sub (pe_op op_mod (pe_op op_fdiv (pv 1) pe_int) pe_int) pe_int) (pa_cons (pe_op op_sub (pe_op op_mod (pe_op op_fdiv (pv 1) pe_int) (pe_op op_mul pe_int (pe_op op_pow pe_int pe_int))) (pe_op op_pow pe_int pe_int)) pa_nil)))) (pe_op op_mod (pe_op op_fdiv (pv 0) pe_int) pe_int) (fun _ _ => rfl)))
      (pss_cons (ps_if (pt_cmpR op_lt (pe_op op_mod (pv 0) pe_int) pe_int (nomark _)) (pss_one (ps_ret (pe_tup (pa_cons (pe_op op_mod (pv 1) pe_int) (pa_cons (pe_op op_mod (pe_op op_fdiv (pv 1) pe_int) pe_int) (pa_cons (pv 2) pa_nil)))))) pss_nil)
      (pss_one (ps_ret (pe_tup (pa_cons (pe_op op_mod (pv 1) pe_int) (pa_cons (pe_op op_mod (pe_op op_fdiv (pv 1) pe_int) pe_int) (pa_cons (pv 2) pa_nil)))))))))), ?_⟩
    refine ⟨_, rfl, _, _, rfl, rfl, (by show (0 : Int) < 2; decide), rfl, _, rfl, ?_⟩
    refine ite2 (fun _ => ?_) (fun _ => ?_)
    · refine ⟨_, rfl, _, _, rfl, rfl, ⟨by decide, by decide⟩, by show 1 <= sizeLine; decide, fun p hp => ⟨p, _, rfl, upd_same, fun t d H' kk tc hd => q t d H' (fun b o e => ?_) tc hd⟩⟩
      have nb : b ≠ p := ne_of_none e hp
      exact kk b o nb (by rw [upd_ne nb]; exact e)
    · refine ⟨_, rfl, _, _, rfl, rfl, ⟨by decide, by decide⟩, ?_⟩
      refine ⟨_, rfl, _, _, rfl, rfl, ⟨by decide, by decide⟩, ?_⟩
      refine seq_abs fun M hM => hM _ _ ?_
      refine seq_abs fun M hM => ?_
      refine ⟨_, rfl, _, _, rfl, rfl, ⟨by decide, by decide⟩, _, _, rfl, rfl, (by show (0 : Int) < 7; decide), _, _, rfl, rfl, _, rfl, _, _, rfl, rfl, ⟨by decide, by decide⟩, _, _, rfl, rfl, (by show (0 : Int) < 41; decide), _, _, rfl, rfl,
        _, rfl, _, _, rfl, rfl, ⟨by decide, by decide⟩, _, _, rfl, rfl, ⟨by decide, by decide, by decide⟩, _, _, rfl, rfl, .inl ⟨by decide, by decide⟩, _, _, rfl, rfl, by rw [p18]; show (0 : Int) < 2 * 1000000000000000000; decide, _, _, rfl, rfl, ⟨by decide, by decide, by decide⟩, _, _, rfl, rfl, by show 3 <= sizeLine; decide, fun l hl => ?_⟩
      rw [p18]
      dsimp only
      have n1 := mod_in ((c / 2 / 4) / 16) 7 (by decide)
      have n2 := mod_in ((c / 2 / 4) / 16) 41 (by decide)
      have n3 := mod_in ((c / 2 / 4) / 16) (2 * 1000000000000000000) (by decide)
      have s1 := Same.new (o := HO.lst [.int ((c / 2 / 4) / 16 % 7 - 3), .int ((c / 2 / 4) / 16 % 41 - 20), .int ((c / 2 / 4) / 16 % (2 * 1000000000000000000) - 1000000000000000000)]) hl
      have h1 : (upd H l (.lst [.int ((c / 2 / 4) / 16 % 7 - 3), .int ((c / 2 / 4) / 16 % 41 - 20), .int ((c / 2 / 4) / 16 % (2 * 1000000000000000000) - 1000000000000000000)])) l = some (.lst [.int ((c / 2 / 4) / 16 % 7 - 3), .int ((c / 2 / 4) / 16 % 41 - 20), .int ((c / 2 / 4) / 16 % (2 * 1000000000000000000) - 1000000000000000000)]) := upd_same
      obtain ⟨z, hz, az⟩ : ∃ z : Int, atI ([.int ((c / 2 / 4) / 16 % 7 - 3), .int ((c / 2 / 4) / 16 % 41 - 20), .int ((c / 2 / 4) / 16 % (2 * 1000000000000000000) - 1000000000000000000)] : List V) (c / 2 / 64 % 3) = some (.int z) /\ z.natAbs <= 10 ^ 18 := by
        have m := mod_in (c / 2 / 64) 3 (by decide)
        have : c / 2 / 64 % 3 = 0 \/ c / 2 / 64 % 3 = 1 \/ c / 2 / 64 % 3 = 2 := by lia
        rcases this with y | y | y <;> rw [y]
        · exact ⟨_, atI_nat (j := 0) rfl, Nat.le_trans (show ((c / 2 / 4) / 16 % 7 - 3).natAbs <= 10 by lia) (by decide)⟩
        · exact ⟨_, atI_nat (j := 1) rfl, Nat.le_trans (show ((c / 2 / 4) / 16 % 41 - 20).natAbs <= 100 by lia) (by decide)⟩
        · exact ⟨_, atI_nat (j := 2) rfl, abs18 n3.1 n3.2⟩
      generalize upd H l (.lst [.int ((c / 2 / 4) / 16 % 7 - 3), .int ((c / 2 / 4) / 16 % 41 - 20), .int ((c / 2 / 4) / 16 % (2 * 1000000000000000000) - 1000000000000000000)]) = H1 at s1 h1 ⊢
      refine ⟨_, rfl, _, _, rfl, rfl, ⟨by decide, by decide⟩, _, _, rfl, rfl, (by show (0 : Int) < 3; decide), l, _, _, _, rfl, rfl, SqL.of h1, hz, ?_⟩
      refine hM _ _ ?_
      clear hM M
      refine ⟨_, rfl, _, _, rfl, rfl, (by show (0 : Int) < 4; decide), _, _, rfl, rfl, _, rfl, ?_⟩
      refine ite2 (fun _ => ?_) (fun _ => ?_)
      · refine ⟨_, rfl, _, _, rfl, rfl, (by show (0 : Int) < 4; decide), _, rfl, _, _, rfl, rfl, ⟨by decide, by decide⟩, _, _, rfl, rfl, (by show (0 : Int) < 4; decide), _, rfl, by show 3 <= sizeLine; decide, fun d hd => ?_⟩
        have m1 := mod_in (c / 2 / 4) 4 (by decide)
        have m2 := mod_in ((c / 2 / 4) / 4) 4 (by decide)
        exact q ((c / 2 / 4) % 4, (c / 2 / 4) / 4 % 4, z) d _ (s1.trans (Same.new hd)) ⟨m1.1, by show (c / 2 / 4) % 4 <= 20; lia, m2.1, by show (c / 2 / 4) / 4 % 4 <= 20; lia, az⟩ upd_same
      · refine ⟨_, rfl, _, _, rfl, rfl, (by show (0 : Int) < 21; decide), _, rfl, _, _, rfl, rfl, ⟨by decide, by decide⟩, _, _, rfl, rfl, (by show (0 : Int) < 21; decide), _, rfl, by show 3 <= sizeLine; decide, fun d hd => ?_⟩
        have m1 := mod_in (c / 2 / 4) 21 (by decide)
        have m2 := mod_in ((c / 2 / 4) / 21) 21 (by decide)
        exact q ((c / 2 / 4) % 21, (c / 2 / 4) / 21 % 21, z) d _ (s1.trans (Same.new hd)) ⟨m1.1, by show (c / 2 / 4) % 21 <= 20; lia, m2.1, by show (c / 2 / 4) / 21 % 21 <= 20; lia, az⟩ upd_same
end
structure RowAt (H : Hp) (v : V) (ts : List T3) : Prop where
  ex : ∃ r xs, v = .ref r /\ H r = some (.lst xs) /\ Paired (TermAt H) xs ts
  tc : ∀ t ∈ ts, TC t
  le : ts.length <= 21
theorem RowAt.same {H H' : Hp} {v : V} {ts : List T3} (h : RowAt H v ts) (e : Same H H') : RowAt H' v ts := by
  obtain ⟨r, xs, a, b, c⟩ := h.ex
  exact ⟨⟨r, xs, a, e _ _ b, terms_same c e⟩, h.tc, h.le⟩
def spThree (K : W.Frag) : Sp := fun vs H Q _ => ∃ (a : Addr) (ns : List Int), vs = [.ref a] /\ SqL K H a (ns.map V.int) /\ ns.length <= 63 /\ ∀ l v0 v1 v2 ts0 ts1 ts2 H', Same H H' -> H' l = some (.lst [v0, v1, v2]) -> RowAt H' v0 ts0 -> RowAt H' v1 ts1 -> RowAt H' v2 ts2 -> Q (.ref l) H'
def spTurned (K : W.Frag) : Sp := fun vs H Q _ => ∃ (a : Addr) (c : Int) (xs : List V), vs = [.ref a, .int c] /\ H a = some (.lst xs) /\ xs.length <= 900 /\ ∀ l ys H', Same H H' -> ys.Perm xs -> H' l = some (.lst ys) -> Q (.ref l) H'
def tinyT (t : T3) : T3 := (t.1 % 4, t.2.1 % 4, t.2.2 % 41 - 20)
def spTiny (K : W.Frag) : Sp := fun vs H Q _ => ∃ (a : Addr) (xs : List V) (ts : List T3), vs = [.ref a] /\ H a = some (.lst xs) /\ Paired (TermAt H) xs ts /\ ts.length <= 900 /\ ∀ v' L H', Same H H' -> PolyIs (ts.map tinyT) L -> L.length <= ts.length -> PolyAt H' v' L -> Q v' H'
theorem pair_perm {F : V -> T3 -> Prop} {xs ys : List V} (p : ys.Perm xs) : ∀ {ts : List T3}, Paired F xs ts -> ∃ us, us.Perm ts /\ Paired F ys us := by
  induction p with
  | nil => intro ts h; exact ⟨ts, .refl _, h⟩
  | cons a _ ih =>
    intro ts h
    cases h with
    | cons h t => obtain ⟨us, p, q⟩ := ih t; exact ⟨_ :: us, p.cons _, .cons h q⟩
  | swap a b l =>
    intro ts h
    cases h with
    | cons h t => cases t with
      | cons h2 t2 => exact ⟨_, List.Perm.swap .., .cons h2 (.cons h t2)⟩
  | trans _ _ ih1 ih2 =>
    intro ts h
    obtain ⟨us, p, q⟩ := ih2 h
    obtain ⟨ws, p2, q2⟩ := ih1 q
    exact ⟨ws, p2.trans p, q2⟩
theorem cut_perm {xs : List V} {n : Nat} (h : n <= xs.length) : ((cutV xs (some (n : Int)) none).reverse ++ cutV xs none (some (n : Int))).Perm xs := by
  have e0 : HT.sIx xs.length 0 none = 0 := rfl
  have e1 : HT.sIx xs.length xs.length none = xs.length := rfl
  unfold cutV
  rw [HT.sIx_nat, HT.sIx_nat, e0, e1, Nat.min_eq_left h, List.drop_zero, Nat.sub_zero, List.take_of_length_le (by rw [List.length_drop]; lia)]
  refine ((List.reverse_perm _).append_right _).trans (List.perm_append_comm.trans ?_)
  rw [List.take_append_drop]
section
variable {P : Program} {w : World} {K : W.Frag} {mg : Str -> Option Value} {base : Heap}
theorem scThree : FnScope ["_law_script", "_law_cells"] ["_law_script"] (defScope sThree) := ⟨rfl, rfl, rfl, by decide +kernel, rfl, by decide +kernel, by decide +kernel⟩
theorem ndT1 : (["_law_at_here", "_law_cells"] : List Str).Nodup := by decide +kernel
theorem ndT2 : (["_law_k", "_law_at_here", "_law_cells"] : List Str).Nodup := by decide +kernel
theorem d_three (T : TxP mg) (S : Src K mg "_law_three" sThree ["_law_script"]) (DT : Def P w K mg base 3 "_law_term" ["_law_cell"] spTerm) : Def P w K mg base 4 "_law_three" ["_law_script"] (spThree K) := by
  refine S.def scThree (fun vs H Q E h => ?_) (fun f cdv A outer s H vs Q E hr h => ?_)
  · obtain ⟨_, _, rfl, _⟩ := h; rfl
  · obtain ⟨a, ns, rfl, hq, hlen, q⟩ := h
    refine ⟨_, pss_cons (ps_set (i := 1) scThree.nd rfl (Or.inr rfl) (pe_slice (sl_listK K) (pv 0) (po_some pe_int) (po_some pe_int)))
      (pss_one (ps_ret (pe_compC (N' := ["_law_at_here", "_law_cells"]) (fr := [none, some 1]) (compOkC_of (by rfl)) rfl (pi_range1 rfl T.range (pa_cons pe_int pa_nil))
        (fun _ _ _ _ => pg_name (i := 0) ndT1 rfl (Or.inr rfl) (Or.inl rfl)) (fun _ _ _ _ => pifs_nil)
        (fun _ _ _ _ => pe_comp (wi := iRng1 (tCons (tCB (rLenK K) (tCons (tVar 1) tNil)) tNil)) (N' := ["_law_k", "_law_at_here", "_law_cells"]) (fr := [none, some 0, some 1]) (compOk_of (by rfl)) rfl (pi_range1 rfl T.range (pa_cons (pe_callB (call_lenK K) (by rfl) T.len PySem.boot_len (pa_cons (pv 1) pa_nil)) pa_nil))
          (fun _ _ _ _ => pg_name (i := 0) ndT2 rfl (Or.inl rfl) (Or.inr rfl)) (fun _ _ _ _ => pifs_one (pt_cmpR op_eq (pe_op op_mod (pv 0) pe_int) (pv 1) (nomark _))) (fun _ _ _ _ => pe_def DT hr rfl (pa_cons (pe_ix (ix_listK K) (pv 2) (pv 0) (fun _ _ => rfl)) pa_nil)))))), ?_⟩
    obtain ⟨ms, em, ml⟩ := cut_map ns (some 3) (some 63)
    refine ⟨_, rfl, _, rfl, _, rfl, a, _, rfl, hq, fun p1 hp1 => ?_⟩
    rw [em]
    have s1 := Same.new (o := HO.lst (ms.map V.int)) hp1
    have hp1' : (upd H p1 (.lst (ms.map V.int))) p1 = some (.lst (ms.map V.int)) := upd_same
    generalize upd H p1 (.lst (ms.map V.int)) = H1 at s1 hp1' ⊢
    dsimp only [List.set]
    refine ⟨3, rfl, by decide, by decide, ?_⟩
    refine comp_range (lo := 0) (n := 3) (fun σ => ∃ v, σ = [v, some (.ref p1)]) (fun j ys H' => Same H1 H' /\ ∃ tss, Paired (RowAt H') ys tss /\ tss.length = j) ⟨_, rfl⟩ ⟨Same.refl _, [], .nil, rfl⟩ (lt_line (by decide)) ?_ ?_
    · rintro j ys σ H2 N hj ⟨u, rfl⟩ ⟨sm, tss, ht, tl⟩ hN
      rw [show (0 : Int) + (j : Int) = (j : Int) by lia]
      dsimp only [gName, List.set]
      have hp2 := sm _ _ hp1'
      refine yesT ⟨_, rfl, p1, _, rfl, .inl (SqL.of hp2), _, rfl, ?_, ?_, ?_⟩
      · lia
      · rw [List.length_map]; lia
      rw [List.length_map, Int.toNat_natCast]
      refine comp_range (lo := 0) (n := ms.length) (fun σ => ∃ v, σ = [v, some (.int (j : Int)), some (.ref p1)]) (fun i ys H' => Same H2 H' /\ ∃ ts, Paired (TermAt H') ys ts /\ 3 * ts.length + j <= i + 2 /\ ∀ t ∈ ts, TC t) ⟨_, rfl⟩ ⟨Same.refl _, [], .nil, by rw [List.length_nil]; lia, fun _ z => nomatch z⟩ (lt_line (by lia)) ?_ ?_
      · rintro i ys2 σ H3 N2 hi ⟨u, rfl⟩ ⟨sm3, ts, ht3, tl3, hb⟩ hN2
        rw [show (0 : Int) + (i : Int) = (i : Int) by lia]
        dsimp only [gName, List.set]
        refine ⟨_, rfl, _, _, rfl, rfl, (by show (0 : Int) < 3; decide), _, rfl, rfl, _, rfl, ?_⟩
        refine ite2 (fun z => ?_) (fun z => ?_)
        · have e : (i : Int) % 3 = (j : Int) := by injection of_decide_eq_true z
          have ai : atI (ms.map V.int) (i : Int) = some (.int ms[i]) := atI_nat (j := i) (by simp [hi])
          refine ⟨_, rfl, _, rfl, p1, _, _, _, rfl, rfl, SqL.of (sm3 _ _ hp2), ai, _, rfl, fun t d H4 s4 tc hd => ?_⟩
          refine hN2 _ _ _ ⟨_, rfl⟩ ⟨sm3.trans s4, ts ++ [t], L2.Paired.snoc (terms_same ht3 s4) ⟨d, rfl, hd⟩, by rw [List.length_append, List.length_singleton]; lia, fun u hu => ?_⟩ (by simp)
          rcases List.mem_append.mp hu with hu | hu
          · exact hb u hu
          · rw [List.mem_singleton.mp hu]; exact tc
        · exact hN2 _ _ _ ⟨_, rfl⟩ ⟨sm3, ts, ht3, by lia, hb⟩ (by simp)
      · rintro ys2 H3 ⟨sm3, ts, ht3, tl3, hb⟩ l hl
        have s4 := Same.new (o := HO.lst ys2) hl
        refine hN _ _ _ ⟨_, rfl⟩ ⟨sm.trans (sm3.trans s4), tss ++ [ts], L2.Paired.snoc (L2.Paired.mapP ht fun _ _ q => q.same (sm3.trans s4)) ⟨⟨l, ys2, rfl, upd_same, terms_same ht3 s4⟩, hb, by lia⟩, by simp [tl]⟩ (by simp)
    · rintro ys H2 ⟨sm, tss, ht, tl⟩ l hl
      obtain ⟨t0, t1, t2, rfl⟩ : ∃ t0 t1 t2, tss = [t0, t1, t2] := by
        match tss, tl with
        | [t0, t1, t2], _ => exact ⟨t0, t1, t2, rfl⟩
      have s3 := Same.new (o := HO.lst ys) hl
      have hl3 : (upd H2 l (.lst ys)) l = some (.lst ys) := upd_same
      have ht3 := L2.Paired.mapP ht fun _ _ q => RowAt.same q s3
      cases ht3 with
      | cons h0 ht3 => cases ht3 with
        | cons h1 ht3 => cases ht3 with
          | cons h2 ht3 =>
            cases ht3
            exact q l _ _ _ _ _ _ _ (s1.trans (sm.trans s3)) hl3 h0 h1 h2
theorem scTurned : FnScope ["_law_terms", "_law_cell", "_law_at_here"] ["_law_terms", "_law_cell"] (defScope sTurned) := ⟨rfl, rfl, rfl, by decide +kernel, rfl, by decide +kernel, by decide +kernel⟩
theorem d_turned (T : TxP mg) (hrev : mg "reversed" = none) (S : Src K mg "_law_turned" sTurned ["_law_terms", "_law_cell"]) : Def P w K mg base 1 "_law_turned" ["_law_terms", "_law_cell"] (spTurned K) := by
  refine S.def scTurned (fun vs H Q E h => ?_) (fun f cdv A outer s H vs Q E hr h => ?_)
  · obtain ⟨_, _, _, rfl, _⟩ := h; rfl
  · obtain ⟨a, c, xs, rfl, ha, hl, q⟩ := h
    refine ⟨_, pss_cons (ps_set (i := 2) scTurned.nd rfl (Or.inl rfl) (pe_op op_mod (pv 1) (pe_op op_add (pe_callB (call_lenK K) (by rfl) T.len PySem.boot_len (pa_cons (pv 0) pa_nil)) pe_int)))
      (pss_one (ps_ret (pe_op op_cat (pe_listrev rfl rfl T.list rfl hrev (pe_slice (sl_listK K) (pv 0) (po_some (pv 2)) po_none)) (pe_slice (sl_listK K) (pv 0) po_none (po_some (pv 2)))))), ?_⟩
    refine ⟨_, rfl, _, rfl, a, xs, rfl, .inl (SqL.of ha), _, _, rfl, rfl, _, _, rfl, rfl, (by show (0 : Int) < (xs.length : Int) + 1; lia), ?_⟩
    obtain ⟨n, en⟩ : ∃ n : Nat, c % ((xs.length : Int) + 1) = (n : Int) := ⟨(c % ((xs.length : Int) + 1)).toNat, (Int.toNat_of_nonneg (mod_in c ((xs.length : Int) + 1) (by lia)).1).symm⟩
    have m := mod_in c ((xs.length : Int) + 1) (by lia)
    dsimp only [gName, List.set]
    rw [en] at m ⊢
    have pm := cut_perm (xs := xs) (n := n) (by lia)
    have l1 := cutV_length xs (some (n : Int)) none
    have l2 := cutV_length xs none (some (n : Int))
    refine ⟨_, rfl, _, rfl, _, rfl, a, xs, rfl, SqL.of ha, fun p1 hp1 => ⟨p1, _, rfl, SqL.of upd_same, by lia, fun p2 hp2 => ?_⟩⟩
    have s1 := Same.new (o := HO.lst (cutV xs (some (n : Int)) none)) hp1
    have s2 := Same.new (o := HO.lst (cutV xs (some (n : Int)) none).reverse) hp2
    refine ⟨_, rfl, _, rfl, _, rfl, a, xs, rfl, SqL.of (s2 _ _ (s1 _ _ ha)), fun p3 hp3 => ?_⟩
    have s3 := Same.new (o := HO.lst (cutV xs none (some (n : Int)))) hp3
    refine ⟨p2, p3, _, _, rfl, rfl, s3 _ _ upd_same, upd_same, line_of (by rw [List.length_reverse]; lia), fun p4 hp4 => ?_⟩
    exact q p4 _ _ (s1.trans (s2.trans (s3.trans (Same.new hp4)))) pm upd_same
theorem scTiny : FnScope ["_law_terms"] ["_law_terms"] (defScope sTiny) := ⟨rfl, rfl, rfl, by decide +kernel, rfl, by decide +kernel, by decide +kernel⟩
theorem ndT3 : (["_law_i", "_law_j", "_law_times"] : List Str).Nodup := by decide +kernel
theorem d_tiny (S : Src K mg "_law_tiny" sTiny ["_law_terms"]) (DG : Def P w K mg base 1 "gathered" ["terms"] (spGath K)) : Def P w K mg base 2 "_law_tiny" ["_law_terms"] (spTiny K) := by
  refine S.def scTiny (fun vs H Q E h => ?_) (fun f cdv A outer s H vs Q E hr h => ?_)
  · obtain ⟨_, _, _, rfl, _⟩ := h; rfl
  · obtain ⟨a, xs, ts, rfl, ha, ht, tl, q⟩ := h
    have rl : xs.length = ts.length := Paired.length ht
    refine ⟨_, pss_one (ps_ret (pe_def DG hr rfl (pa_cons (pe_comp (N' := ["_law_i", "_law_j", "_law_times"]) (fr := [none, none, none]) (compOk_of (by rfl)) rfl (pi_seqK K .l (pv 0))
      (g := gTup K 3 (gCons (gName 0) (gCons (gName 1) (gCons (gName 2) gNil)))) (fun _ _ _ _ => pg_tupK K 3 rfl (pgs_cons (pg_name (i := 0) ndT3 rfl (Or.inl rfl) (Or.inr rfl)) (pgs_cons (pg_name (i := 1) ndT3 rfl (Or.inl rfl) (Or.inr rfl)) (pgs_cons (pg_name (i := 2) ndT3 rfl (Or.inl rfl) (Or.inr rfl)) pgs_nil))))
      (fun _ _ _ _ => pifs_nil) (fun _ _ _ _ => pe_tup (pa_cons (pe_op op_mod (pv 0) pe_int) (pa_cons (pe_op op_mod (pv 1) pe_int) (pa_cons (pe_op op_sub (pe_op op_mod (pv 2) pe_int) pe_int) pa_nil))))) pa_nil))), ?_⟩
    refine ⟨_, rfl, a, rfl, ⟨_, SqL.of ha⟩, comp_seq (k := .l) (a := a) (xs := xs) (fun σ => ∃ u v r, σ = [u, v, r]) (fun i ys H' => Same H H' /\ Paired (TermAt H') ys ((ts.take i).map tinyT)) ⟨_, _, _, rfl⟩ ⟨Same.refl _, .nil⟩ (natB (by lia)) (fun i ys H' _ z => SqL.of (z.1 _ _ ha)) ?_ ?_⟩
    · rintro i z ys σ H' N hz ⟨u, v, r, rfl⟩ ⟨sm, hy⟩ hN
      obtain ⟨t, e1, b, rfl, hb⟩ := Paired.at ht hz
      refine ⟨b, _, rfl, SqT.of (sm _ _ hb), rfl, _, _, rfl, _, _, rfl, _, _, rfl, rfl, ?_⟩
      dsimp only [gName, List.set]
      refine yesT ⟨_, rfl, _, _, rfl, rfl, (by show (0 : Int) < 4; decide), _, rfl, _, _, rfl, rfl, (by show (0 : Int) < 4; decide), _, rfl, _, _, rfl, rfl, (by show (0 : Int) < 41; decide), _, _, rfl, rfl, by show 3 <= sizeLine; decide, fun d hd => ?_⟩
      refine hN _ _ _ ⟨_, _, _, rfl⟩ ⟨sm.trans (Same.new hd), ?_⟩ (by simp)
      rw [take_succ_of e1, List.map_append]
      exact L2.Paired.snoc (terms_same hy (Same.new hd)) ⟨d, rfl, upd_same⟩
    · rintro ys H' ⟨sm, hy⟩ p hp
      rw [rl, List.take_length] at hy
      have s1 := Same.new (o := HO.lst ys) hp
      exact ⟨.l, p, ys, ts.map tinyT, rfl, SqL.of upd_same, termsK (terms_same hy s1), by rw [List.length_map]; lia, fun v' M H2 s2 pM ml pat => q v' M H2 ((sm.trans s1).trans s2) pM (by rw [List.length_map] at ml; exact ml) pat⟩
end
theorem coef_abs {c : Nat} {ts : List T3} (h : ∀ t ∈ ts, t.2.2.natAbs <= c) (k : Int × Int) : (coef ts k).natAbs <= ts.length * c := by
  induction ts with
  | nil => exact Nat.zero_le _
  | cons t ts ih =>
    have h1 := ih fun u hu => h u (List.mem_cons_of_mem _ hu)
    have h2 := h t (List.mem_cons_self ..)
    rw [coef_cons, List.length_cons, Nat.add_mul, Nat.one_mul, Nat.add_comm]
    refine Nat.le_trans (Int.natAbs_add_le _ _) (Nat.add_le_add ?_ h1)
    split
    · exact h2
    · exact Nat.zero_le _
theorem poly_self {L : List T3} (up : L.Pairwise keyLt) (nz : ∀ t ∈ L, t.2.2 ≠ 0) : PolyIs L L where
  up := up
  mem t := by
    have nd := up_nodup up
    constructor
    · intro ht
      exact ⟨nz t ht, (nodup_coef nd t ht).symm⟩
    · rintro ⟨a, b⟩
      have ex : ∃ u ∈ L, k3 u = k3 t := by
        refine Classical.byContradiction fun hn => a ?_
        rw [b]
        exact coef_zero fun u hu z => hn ⟨u, hu, z⟩
      obtain ⟨u, hu, e⟩ := ex
      have h := nodup_coef nd u hu
      rw [e, <- b] at h
      have : u = t := by
        obtain ⟨x1, x2, x3⟩ := u
        obtain ⟨y1, y2, y3⟩ := t
        have e1 : x1 = y1 := congrArg (fun z : Int × Int => z.1) e
        have e2 : x2 = y2 := congrArg (fun z : Int × Int => z.2) e
        have e3 : y3 = x3 := h
        rw [e1, e2, e3]
      rw [<- this]
      exact hu
theorem prod_app (p q r : List T3) : prodL (p ++ q) r = prodL p r ++ prodL q r := List.flatMap_append
theorem prod_sw (p q : List T3) : (prodL p q).map sw = prodL (p.map sw) (q.map sw) := by
  unfold prodL
  rw [List.map_flatMap, List.flatMap_map]
  congr 1
  funext t
  rw [List.map_map, List.map_map]
  rfl
theorem sw_eqv {p q : List T3} (h : Eqv p q) : Eqv (p.map sw) (q.map sw) := fun k => by rw [coef_sw, coef_sw, h]
theorem app_eqv {p q p' q' : List T3} (h : Eqv p p') (h2 : Eqv q q') : Eqv (p ++ q) (p' ++ q') := fun k => by rw [coef_app, coef_app, h, h2]
theorem lin_addg28 (f g : Int × Int -> Int) : ∀ ts : List T3, lin ts (fun k => f k + g k) = lin ts f + lin ts g
  | [] => rfl
  | t :: ts => by
    rw [lin_cons, lin_cons, lin_cons, lin_addg28 f g ts, Int.mul_add]
    lia
theorem prod_app_r (p q r : List T3) (k : Int × Int) : coef (prodL p (q ++ r)) k = coef (prodL p q) k + coef (prodL p r) k := by
  rw [coef_prod, coef_prod, coef_prod, <- lin_addg28]
  congr 1
  funext a
  rw [coef_app]
theorem lin_ind28 (t : T3) (k : Int × Int) : ∀ us : List T3, lin us (fun a => if k3 t = ksub k a then t.2.2 else 0) = t.2.2 * coef us (ksub k (k3 t))
  | [] => by rw [show coef [] (ksub k (k3 t)) = 0 from rfl, Int.mul_zero]; rfl
  | u :: us => by
    rw [lin_cons, lin_ind28 t k us, coef_cons, Int.mul_add]
    congr 1
    have e : k3 t = ksub k (k3 u) ↔ k3 u = ksub k (k3 t) := by
      unfold k3 ksub
      rw [Prod.ext_iff, Prod.ext_iff]
      dsimp only
      lia
    by_cases c : k3 t = ksub k (k3 u)
    · rw [if_pos c, if_pos (e.mp c), Int.mul_comm]
    · rw [if_neg c, if_neg (fun z => c (e.mpr z)), Int.mul_zero, Int.mul_zero]
theorem lin_zero28 : ∀ us : List T3, lin us (fun _ => 0) = 0
  | [] => rfl
  | u :: us => by rw [lin_cons, lin_zero28 us, Int.mul_zero]; rfl
theorem prod_comm28 (us : List T3) : ∀ ts : List T3, Eqv (prodL us ts) (prodL ts us)
  | [], k => by
    rw [coef_prod]
    exact lin_zero28 us
  | t :: ts, k => by
    have ih := prod_comm28 us ts k
    rw [coef_prod] at ih ⊢
    have e : (fun a => coef (t :: ts) (ksub k a)) = fun a => (if k3 t = ksub k a then t.2.2 else 0) + coef ts (ksub k a) := by
      funext a
      rw [coef_cons]
    rw [e, lin_addg28 (fun a => if k3 t = ksub k a then t.2.2 else 0), lin_ind28, ih]
    show _ = coef (us.map (mulT t) ++ prodL ts us) k
    rw [coef_app, coef_mulT]
theorem prod_two (us : List T3) (k : Int × Int) : coef (prodL [(0, 0, 2)] us) k = 2 * coef us k := by
  rw [coef_prod, lin_cons]
  show 2 * coef us (ksub k (0, 0)) + 0 = _
  have : ksub k (0, 0) = k := by
    unfold ksub
    rw [Prod.ext_iff]
    exact ⟨Int.sub_zero _, Int.sub_zero _⟩
  rw [this, Int.add_zero]
theorem square (p q : List T3) : Eqv (pwL (p ++ q) 2) ((pwL p 2 ++ prodL [(0, 0, 2)] (prodL p q)) ++ pwL q 2) := fun k => by
  have e2 : ∀ us : List T3, pwL us 2 = prodL us us := fun us => by
    show prodL (prodL [(0, 0, 1)] us) us = _
    rw [prod_one_l]
  rw [e2, e2, e2, coef_app, coef_app, prod_two, prod_app, coef_app, prod_app_r, prod_app_r, prod_comm28 q p k]
  lia
def dg (c : Nat -> Int) : Nat -> Int
  | 0 => 0
  | n + 1 => c 0 + 100000000000000 * dg (fun e => c (e + 1)) n
theorem dg_inj : ∀ (n : Nat) {c d : Nat -> Int}, (∀ e, (c e).natAbs <= 1000) -> (∀ e, (d e).natAbs <= 1000) -> dg c n = dg d n -> ∀ e, e < n -> c e = d e
  | 0, _, _, _, _, _, e, h => absurd h (Nat.not_lt_zero e)
  | n + 1, c, d, hc, hd, h, e, he => by
    have h' : c 0 + 100000000000000 * dg (fun e => c (e + 1)) n = d 0 + 100000000000000 * dg (fun e => d (e + 1)) n := h
    have c0 := hc 0
    have d0 := hd 0
    have eq : dg (fun e => c (e + 1)) n = dg (fun e => d (e + 1)) n := by
      generalize dg (fun e => c (e + 1)) n = x at h' ⊢
      generalize dg (fun e => d (e + 1)) n = y at h' ⊢
      lia
    rw [eq] at h'
    cases e with
    | zero => lia
    | succ e => exact dg_inj n (c := fun e => c (e + 1)) (d := fun e => d (e + 1)) (fun _ => hc _) (fun _ => hd _) eq e (by lia)
theorem dg_sum (c : Nat -> Int) : ∀ n : Nat, ((List.range n).map fun e => c e * 100000000000000 ^ e).sum = dg c n := by
  intro n
  induction n generalizing c with
  | zero => rfl
  | succ n ih =>
    rw [List.range_succ_eq_map, List.map_cons, List.sum_cons, List.map_map]
    show c 0 * 100000000000000 ^ 0 + _ = c 0 + 100000000000000 * dg (fun e => c (e + 1)) n
    rw [<- ih (fun e => c (e + 1)), Int.pow_zero, Int.mul_one]
    congr 1
    have : ∀ l : List Nat, (l.map ((fun e => c e * 100000000000000 ^ e) ∘ Nat.succ)).sum = 100000000000000 * (l.map fun e => c (e + 1) * 100000000000000 ^ e).sum := fun l => by
      induction l with
      | nil => rfl
      | cons a l il =>
        rw [List.map_cons, List.map_cons, List.sum_cons, List.sum_cons, il, Int.mul_add]
        congr 1
        show c (a + 1) * 100000000000000 ^ (a + 1) = _
        rw [Int.pow_succ, <- Int.mul_assoc, Int.mul_comm]
    exact this _
def k16 (e : Nat) : Int × Int := (((e % 4 : Nat) : Int), ((e / 4 : Nat) : Int))
theorem k16_nd : ((List.range 16).map k16).Nodup := by decide +kernel
theorem xy16 : ∀ e, e < 16 -> xy 100000000000000 (10 ^ 56) (k16 e) = 100000000000000 ^ e := by
  intro e he
  have : ∀ e ∈ List.range 16, xy 100000000000000 (10 ^ 56) (k16 e) = 100000000000000 ^ e := by decide +kernel
  exact this e (List.mem_range.mpr he)
structure Tny (ts L : List T3) : Prop where
  is : PolyIs (ts.map tinyT) L
  le : ts.length <= 21
theorem tiny_key (t : T3) : ∃ e, e < 16 /\ k16 e = k3 (tinyT t) := by
  have a := mod_in t.1 4 (by decide)
  have b := mod_in t.2.1 4 (by decide)
  refine ⟨(t.1 % 4 + 4 * (t.2.1 % 4)).toNat, by lia, ?_⟩
  unfold k16 k3 tinyT
  rw [Prod.ext_iff]
  dsimp only
  generalize t.1 % 4 = x at a ⊢
  generalize t.2.1 % 4 = y at b ⊢
  constructor <;> lia
theorem Tny.abs {ts L : List T3} (h : Tny ts L) (k : Int × Int) : (coef (ts.map tinyT) k).natAbs <= 1000 := by
  refine Nat.le_trans (coef_abs (c := 20) (fun t ht => ?_) k) (by rw [List.length_map]; have := h.le; lia)
  obtain ⟨u, _, rfl⟩ := List.mem_map.mp ht
  have := mod_in u.2.2 41 (by decide)
  show (u.2.2 % 41 - 20).natAbs <= 20
  lia
theorem Tny.key {ts L : List T3} (h : Tny ts L) : ∀ t ∈ L, ∃ e, e < 16 /\ k16 e = k3 t := fun t ht => by
  obtain ⟨a, b⟩ := (h.is.mem t).mp ht
  refine Classical.byContradiction fun hn => a ?_
  rw [b]
  refine coef_zero fun u hu z => hn ?_
  obtain ⟨r, _, rfl⟩ := List.mem_map.mp hu
  rw [<- z]
  exact tiny_key r
theorem Tny.wor {ts L : List T3} (h : Tny ts L) : worth L 100000000000000 (10 ^ 56) = dg (fun e => coef (ts.map tinyT) (k16 e)) 16 := by
  have e1 : worth L 100000000000000 (10 ^ 56) = lin L (xy 100000000000000 (10 ^ 56)) := worth_lin L _ _ fun t _ => by
    unfold wTerm xy
    rw [Int.mul_assoc]
    rfl
  rw [e1, lin_keys _ _ k16_nd L (fun t ht => by
    obtain ⟨e, he, z⟩ := h.key t ht
    exact List.mem_map.mpr ⟨e, List.mem_range.mpr he, z⟩), <- dg_sum, List.map_map]
  congr 1
  refine List.map_congr_left fun e he => ?_
  show coef L (k16 e) * xy _ _ (k16 e) = _
  rw [xy16 e (List.mem_range.mp he), h.is.coef]
theorem tiny_parts {ts us L M : List T3} (h : Tny ts L) (h2 : Tny us M) : decide (worth L 100000000000000 (10 ^ 56) = worth M 100000000000000 (10 ^ 56)) = decide (L = M) := by
  refine decide_eq_decide.mpr ⟨fun e => ?_, fun e => by rw [e]⟩
  rw [h.wor, h2.wor] at e
  have z := dg_inj 16 (fun e => h.abs _) (fun e => h2.abs _) e
  refine h.is.uniq h2.is fun k => ?_
  by_cases c : ∃ e, e < 16 /\ k16 e = k
  · obtain ⟨e, he, rfl⟩ := c
    exact z e he
  · have : ∀ rs : List T3, coef (rs.map tinyT) k = 0 := fun rs => coef_zero fun t ht y => by
      obtain ⟨r, _, rfl⟩ := List.mem_map.mp ht
      rw [<- y] at c
      exact c (tiny_key r)
    rw [this, this]
open Builtin.Int (intBits)
structure Pc (K : W.Frag) (H : Hp) (v : V) (ts : List T3) (n a d : Nat) : Prop where
  ex : ∃ L, PolyK K H v L /\ PolyIs ts L /\ L.length <= n /\ nrm L <= a /\ Deg d L
structure Pa (H : Hp) (v : V) (ts : List T3) (n a d : Nat) : Prop where
  ex : ∃ L, PolyAt H v L /\ PolyIs ts L /\ L.length <= n /\ nrm L <= a /\ Deg d L
section
variable {K : W.Frag} {H H' : Hp} {v u : V} {ts us : List T3} {n m a b d e : Nat} {Q : VK}
theorem Pa.k (h : Pa H v ts n a d) : Pc K H v ts n a d := by
  obtain ⟨L, h1, h2⟩ := h.ex
  exact ⟨L, h1.K, h2⟩
theorem Pa.same (h : Pa H v ts n a d) (s : Same H H') : Pa H' v ts n a d := by
  obtain ⟨L, h1, h2⟩ := h.ex
  exact ⟨L, h1.same s, h2⟩
theorem Pc.same (h : Pc K H v ts n a d) (s : Same H H') : Pc K H' v ts n a d := by
  obtain ⟨L, h1, h2⟩ := h.ex
  exact ⟨L, h1.same s, h2⟩
theorem mul400 {x y : Int} {a b : Nat} (hx : x.natAbs <= a) (hy : y.natAbs <= b) (ha : a <= 2 ^ 400) (hb : b <= 2 ^ 400) : IntMulOk x y := by
  refine IntMulOk.of_le (m := 402) (n := 402) (intBits_le_iff.mpr ?_) (intBits_le_iff.mpr ?_) (by decide)
  · exact Nat.lt_of_le_of_lt (Nat.le_trans hx ha) (Nat.pow_lt_pow_right (by decide) (by decide))
  · exact Nat.lt_of_le_of_lt (Nat.le_trans hy hb) (Nat.pow_lt_pow_right (by decide) (by decide))
theorem prod_use (h : Pc K H v ts n a d) (h2 : Pc K H u us m b e) (hn : n * m < 100000) (hm : m < 100000) (ha : a <= 2 ^ 400) (hb : b <= 2 ^ 400) (q : ∀ x H', Same H H' -> Pa H' x (prodL ts us) (n * m) (a * b) (d + e) -> Q x H') : spProd K [v, u] H Q E0 := by
  obtain ⟨L, h1, p1, l1, n1, d1⟩ := h.ex
  obtain ⟨M, h2, p2, l2, n2, d2⟩ := h2.ex
  refine ⟨v, u, L, M, rfl, h1, h2, Nat.lt_of_le_of_lt (Nat.mul_le_mul l1 l2) hn, by lia, fun t ht r hr => mul400 (Nat.le_trans (nrm_mem ht) n1) (Nat.le_trans (nrm_mem hr) n2) ha hb, fun x N H' s pi le pa => q x H' s ⟨N, pa, pi.of_eqv (prod_eqv p1.eqv p2.eqv), ?_, ?_, ?_⟩⟩
  · rw [prodL_len] at le
    exact Nat.le_trans le (Nat.mul_le_mul l1 l2)
  · refine Nat.le_trans pi.nrm ?_
    rw [nrm_prod]
    exact Nat.mul_le_mul n1 n2
  · have := pi.deg (d1.prod d2)
    rw [Int.natCast_add]
    exact this
theorem deg_app {d : Int} {p q : List T3} (h : Deg d p) (h2 : Deg d q) : Deg d (p ++ q) := fun t ht => (List.mem_append.mp ht).elim (h t) (h2 t)
theorem sum_use (h : Pc K H v ts n a d) (h2 : Pc K H u us m b d) (hn : n + m < 100000) (q : ∀ x H', Same H H' -> Pa H' x (ts ++ us) (n + m) (a + b) d -> Q x H') : spSumOf K [v, u] H Q E0 := by
  obtain ⟨L, h1, p1, l1, n1, d1⟩ := h.ex
  obtain ⟨M, h2, p2, l2, n2, d2⟩ := h2.ex
  refine ⟨v, u, L, M, rfl, h1, h2, by lia, fun x N H' s pi le pa => q x H' s ⟨N, pa, pi.of_eqv (app_eqv p1.eqv p2.eqv), ?_, ?_, pi.deg (deg_app d1 d2)⟩⟩
  · rw [List.length_append] at le
    lia
  · refine Nat.le_trans pi.nrm ?_
    rw [nrm_app]
    lia
theorem nrm_sw : ∀ L : List T3, nrm (L.map sw) = nrm L
  | [] => rfl
  | t :: L => by rw [List.map_cons, nrm_cons, nrm_cons, nrm_sw L]; rfl
theorem exch_use (h : Pa H v ts n a d) (hn : n < 100000) (q : ∀ x H', Same H H' -> Pa H' x (ts.map sw) n a d -> Q x H') : spExch K [v] H Q E0 := by
  obtain ⟨L, h1, p1, l1, n1, d1⟩ := h.ex
  refine ⟨v, L, rfl, h1, by lia, fun x N H' s pi le pa => q x H' s ⟨N, pa, pi.of_eqv (sw_eqv p1.eqv), by lia, ?_, pi.deg fun t ht => ?_⟩⟩
  · refine Nat.le_trans pi.nrm ?_
    rw [nrm_sw]
    exact n1
  · obtain ⟨r, hr, rfl⟩ := List.mem_map.mp ht
    exact ⟨(d1 r hr).2, (d1 r hr).1⟩
theorem pw_eqv (h : Eqv ts us) : ∀ k, Eqv (pwL ts k) (pwL us k)
  | 0 => Eqv.refl _
  | k + 1 => prod_eqv (pw_eqv h k) h
theorem pow_use (h : Pc K H v ts n a d) (hn : n <= 200) (hd : d <= 20) (ha : a <= 2 ^ 400) (q : ∀ x H', Same H H' -> Pc K H' x (pwL ts 2) 1681 (a * a) 40 -> Q x H') : spPow K [v, .int 2] H Q E0 := by
  obtain ⟨L, h1, p1, l1, n1, d1⟩ := h.ex
  have d2 : Deg (20 : Nat) L := fun t ht => by have := d1 t ht; exact ⟨⟨this.1.1, by lia⟩, this.2.1, by lia⟩
  refine ⟨v, L, 2, 20, rfl, h1, by decide, by decide, d2, fun j hj => ?_, by lia, Nat.le_trans n1 ha, fun x N H' s pi pk => q x H' s ⟨N, pk, pi.of_eqv (pw_eqv p1.eqv 2), ?_, ?_, ?_⟩⟩
  · have hj' : j < 2 := hj
    have : (20 * j + 1) * (20 * j + 1) <= 21 * 21 := Nat.mul_le_mul (by lia) (by lia)
    exact Nat.lt_of_le_of_lt (Nat.mul_le_mul this l1) (by lia)
  all_goals
    have e2 : pwL L 2 = prodL L L := by
      show prodL (prodL [(0, 0, 1)] L) L = _
      rw [prod_one_l]
    have pi2 : PolyIs (prodL L L) N := e2 ▸ pi
  · exact deg_len (d := 40) pi2.up (pi2.deg (d2.prod d2))
  · refine Nat.le_trans pi2.nrm ?_
    rw [nrm_prod]
    exact Nat.mul_le_mul n1 n1
  · exact pi2.deg (d2.prod d2)
theorem same_use (h : Pc K H v ts n a d) (h2 : Pc K H u us m b e) (eq : Eqv ts us) {out : Bool} (q : Q (.bl out) H) : rSame K out v u H Q := by
  obtain ⟨L, h1, p1, _⟩ := h.ex
  obtain ⟨M, h2, p2, _⟩ := h2.ex
  have : L = M := p1.uniq p2 eq
  exact same_polyK h1 (this ▸ h2) q
end
def spParts (K : W.Frag) : Sp := fun vs H Q _ => ∃ (v u : V) (L M ts us : List T3), vs = [v, u] /\ PolyAt H v L /\ PolyAt H u M /\ Tny ts L /\ Tny us M /\ ∀ H', Same H H' -> Q (.bl true) H'
def spProducts (K : W.Frag) : Sp := fun vs H Q _ => ∃ (v u x : V) (ps qs rs : List T3), vs = [v, u, x] /\ Pa H v ps 5 (2 ^ 64) 20 /\ Pa H u qs 5 (2 ^ 64) 20 /\ Pa H x rs 5 (2 ^ 64) 20 /\ ∀ H', Same H H' -> Q (.bl true) H'
theorem p14 : (10 : Int) ^ (14 : Int).toNat = 100000000000000 := by decide +kernel
theorem p56 : (10 : Int) ^ (56 : Int).toNat = 10 ^ 56 := by decide +kernel
theorem Tny.pb {ts L : List T3} (h : Tny ts L) : PolyB L := fun t ht => by
  obtain ⟨e, he, k⟩ := h.key t ht
  have k1 : ((e % 4 : Nat) : Int) = t.1 := congrArg Prod.fst k
  have k2 : ((e / 4 : Nat) : Int) = t.2.1 := congrArg Prod.snd k
  refine ⟨by lia, by lia, by lia, by lia, intBits_le_iff.mpr ?_⟩
  rw [((h.is.mem t).mp ht).2]
  exact Nat.lt_of_le_of_lt (h.abs _) (by decide +kernel)
theorem Tny.len {ts L : List T3} (h : Tny ts L) : L.length < 1000 := by
  have d : Deg (3 : Nat) L := fun t ht => by
    obtain ⟨e, he, k⟩ := h.key t ht
    have k1 : ((e % 4 : Nat) : Int) = t.1 := congrArg Prod.fst k
    have k2 : ((e / 4 : Nat) : Int) = t.2.1 := congrArg Prod.snd k
    exact ⟨⟨by lia, by lia⟩, by lia, by lia⟩
  have := deg_len h.is.up d
  lia
theorem l3_inj {L M : List T3} : L.map l3 = M.map l3 ↔ L = M := List.map_inj_right (fun a b z => by rw [<- u3_l3 a, z, u3_l3])
theorem ints_of {H : Hp} {xs : List V} {L : List T3} (h : Paired (TermAt H) xs L) : Paired (IntsAt H) xs (L.map l3) := by
  induction h with
  | nil => exact .nil
  | cons r _ ih => exact .cons r ih
section
variable {P : Program} {w : World} {K : W.Frag} {mg : Str -> Option Value} {base : Heap}
theorem scParts : FnScope ["_law_one", "_law_other", "_law_same"] ["_law_one", "_law_other"] (defScope sParts) := ⟨rfl, rfl, rfl, by decide +kernel, rfl, by decide +kernel, by decide +kernel⟩
theorem d_parts (S : Src K mg "_law_parts" sParts ["_law_one", "_law_other"]) (DW : Def P w K mg base 2 "worth_at" ["poly", "x", "y"] (spWorth K)) : Def P w K mg base 3 "_law_parts" ["_law_one", "_law_other"] (spParts K) := by
  refine S.def scParts (fun vs H Q E h => ?_) (fun f cdv A outer s H vs Q E hr h => ?_)
  · obtain ⟨_, _, _, _, _, _, rfl, _⟩ := h; rfl
  · obtain ⟨v, u, L, M, ts, us, rfl, pL, pM, tL, tM, q⟩ := h
    refine ⟨_, pss_cons (ps_set (i := 2) scParts.nd rfl (Or.inl rfl) (pe_cmpR op_eq (pe_def DW hr rfl (pa_cons (pv 0) (pa_cons (pe_op op_pow pe_int pe_int) (pa_cons (pe_op op_pow pe_int pe_int) pa_nil)))) (pe_def DW hr rfl (pa_cons (pv 1) (pa_cons (pe_op op_pow pe_int pe_int) (pa_cons (pe_op op_pow pe_int pe_int) pa_nil)))) (nomark _)))
      (pss_one (ps_ret (pe_cmpR op_eq (pv 2) (pe_cmpR (r := rEqP K) (op_eqP (units66 hr)) (pv 0) (pv 1) (nomark _)) (nomark _)))), ?_⟩
    refine ⟨_, rfl, _, _, rfl, rfl, ⟨by decide, by decide, by decide⟩, _, _, rfl, rfl, ⟨by decide, by decide, by decide⟩, ?_⟩
    refine ⟨v, L, _, _, rfl, pL, tL.pb, tL.len, by decide +kernel, by decide +kernel, fun H1 s1 => ?_⟩
    refine ⟨_, rfl, _, _, rfl, rfl, ⟨by decide, by decide, by decide⟩, _, _, rfl, rfl, ⟨by decide, by decide, by decide⟩, ?_⟩
    refine ⟨u, M, _, _, rfl, pM.same s1, tM.pb, tM.len, by decide +kernel, by decide +kernel, fun H2 s2 => ?_⟩
    have s12 := s1.trans s2
    obtain ⟨c, rs, rfl, hc, ht⟩ := (pL.same s12).ex
    obtain ⟨c2, rs2, rfl, hc2, ht2⟩ := (pM.same s12).ex
    have ed : decide (V.int (worth L 100000000000000 (10 ^ 56)) = V.int (worth M 100000000000000 (10 ^ 56))) = decide (L = M) := by
      rw [<- tiny_parts tL tM]
      exact decide_eq_decide.mpr ⟨fun z => by injection z, fun z => by rw [z]⟩
    refine ⟨rfl, ?_⟩
    dsimp only [gName, List.set]
    rw [p14, p56, ed]
    refine ⟨_, rfl, _, rfl, _, rfl, c, c2, rs, rs2, L.map l3, M.map l3, rfl, rfl, SqT.of hc, SqT.of hc2, ints_of ht, ints_of ht2, rfl, ?_⟩
    have e2 : decide (L.map l3 = M.map l3) = decide (L = M) := decide_eq_decide.mpr l3_inj
    rw [e2, decide_eq_true rfl]
    exact q _ s12
theorem scProducts : FnScope ["_law_p", "_law_q", "_law_r", "_law_middle"] ["_law_p", "_law_q", "_law_r"] (defScope sProducts) := ⟨rfl, rfl, rfl, by decide +kernel, rfl, by decide +kernel, by decide +kernel⟩
theorem d_products (S : Src K mg "_law_products" sProducts ["_law_p", "_law_q", "_law_r"]) (DS : Def P w K mg base 2 "sum_of" ["one", "other"] (spSumOf K)) (DP : Def P w K mg base 2 "product_of" ["one", "other"] (spProd K)) (DE : Def P w K mg base 2 "exchanged" ["poly"] (spExch K)) (DW : Def P w K mg base 3 "to_power" ["poly", "k"] (spPow K)) : Def P w K mg base 4 "_law_products" ["_law_p", "_law_q", "_law_r"] (spProducts K) := by
  refine S.def scProducts (fun vs H Q E h => ?_) (fun f cdv A outer s H vs Q E hr h => ?_)
  · obtain ⟨_, _, _, _, _, _, rfl, _⟩ := h; rfl
  · obtain ⟨v, u, x, ps, qs, rs, rfl, hp, hq, hx, q⟩ := h
    have hr2 : Room 2 _ := hr.mono (by decide)
    refine ⟨_, pss_cons (ps_if (pt_cmpR (op_neSK K (units66 hr)) (pe_def DP hr2 rfl (pa_cons (pe_def DS hr2 rfl (pa_cons (pv 0) (pa_cons (pv 1) pa_nil))) (pa_cons (pv 2) pa_nil))) (pe_def DS hr2 rfl (pa_cons (pe_def DP hr2 rfl (pa_cons (pv 0) (pa_cons (pv 2) pa_nil))) (pa_cons (pe_def DP hr2 rfl (pa_cons (pv 1) (pa_cons (pv 2) pa_nil))) pa_nil))) (nomark _)) (pss_one (ps_ret pe_bl)) pss_nil)
      (pss_cons (ps_if (pt_cmpR (op_neSK K (units66 hr)) (pe_def DP hr2 rfl (pa_cons (pe_def DP hr2 rfl (pa_cons (pv 0) (pa_cons (pv 1) pa_nil))) (pa_cons (pv 2) pa_nil))) (pe_def DP hr2 rfl (pa_cons (pv 0) (pa_cons (pe_def DP hr2 rfl (pa_cons (pv 1) (pa_cons (pv 2) pa_nil))) pa_nil))) (nomark _)) (pss_one (ps_ret pe_bl)) pss_nil)
      (pss_cons (ps_if (pt_cmpR (op_neSK K (units66 hr)) (pe_def DE hr2 rfl (pa_cons (pe_def DP hr2 rfl (pa_cons (pv 0) (pa_cons (pv 1) pa_nil))) pa_nil)) (pe_def DP hr2 rfl (pa_cons (pe_def DE hr2 rfl (pa_cons (pv 0) pa_nil)) (pa_cons (pe_def DE hr2 rfl (pa_cons (pv 1) pa_nil)) pa_nil))) (nomark _)) (pss_one (ps_ret pe_bl)) pss_nil)
      (pss_cons (ps_set (i := 3) scProducts.nd rfl (Or.inl rfl) (pe_def DP hr2 rfl (pa_cons (pe_tup (pa_cons (pe_tup (pa_cons pe_int (pa_cons pe_int (pa_cons pe_int pa_nil)))) pa_nil)) (pa_cons (pe_def DP hr2 rfl (pa_cons (pv 0) (pa_cons (pv 1) pa_nil))) pa_nil))))
      (pss_one (ps_ret (pe_cmpR (op_eqSK K (units66 hr)) (pe_def DW hr rfl (pa_cons (pe_def DS hr2 rfl (pa_cons (pv 0) (pa_cons (pv 1) pa_nil))) (pa_cons pe_int pa_nil))) (pe_def DS hr2 rfl (pa_cons (pe_def DS hr2 rfl (pa_cons (pe_def DW hr rfl (pa_cons (pv 0) (pa_cons pe_int pa_nil))) (pa_cons (pv 3) pa_nil))) (pa_cons (pe_def DW hr rfl (pa_cons (pv 1) (pa_cons pe_int pa_nil))) pa_nil))) (nomark _))))))), ?_⟩
    refine seq_abs fun M hM => ?_
    refine ⟨_, rfl, _, rfl, sum_use hp.k hq.k (by decide) fun y1 H1 s1 a1 => ?_⟩
    refine ⟨_, rfl, prod_use a1.k (hx.same s1).k (by decide) (by decide) (by decide) (by decide) fun y2 H2 s2 a2 => ?_⟩
    have t2 := s1.trans s2
    refine ⟨_, rfl, _, rfl, prod_use (hp.same t2).k (hx.same t2).k (by decide) (by decide) (by decide) (by decide) fun y3 H3 s3 a3 => ?_⟩
    have t3 := t2.trans s3
    refine ⟨_, rfl, _, rfl, prod_use (hq.same t3).k (hx.same t3).k (by decide) (by decide) (by decide) (by decide) fun y4 H4 s4 a4 => ?_⟩
    refine sum_use (a3.same s4).k a4.k (by decide) fun y5 H5 s5 a5 => ?_
    refine same_use (a2.same (s3.trans (s4.trans s5))).k a5.k (fun k => by rw [prod_app]) ⟨_, rfl, iteF (hM _ _ ?_)⟩
    clear hM M
    replace hp := hp.same (t3.trans (s4.trans s5))
    replace hq := hq.same (t3.trans (s4.trans s5))
    replace hx := hx.same (t3.trans (s4.trans s5))
    replace q : ∀ H', Same H5 H' -> Q (.bl true) H' := fun H' z => q H' (t3.trans (s4.trans (s5.trans z)))
    clear a1 a2 a3 a4 a5 s1 s2 s3 s4 s5 t2 t3
    generalize H5 = H at hp hq hx q
    refine seq_abs fun M hM => ?_
    refine ⟨_, rfl, _, rfl, prod_use hp.k hq.k (by decide) (by decide) (by decide) (by decide) fun y1 H1 s1 a1 => ?_⟩
    refine ⟨_, rfl, prod_use a1.k (hx.same s1).k (by decide) (by decide) (by decide) (by decide) fun y2 H2 s2 a2 => ?_⟩
    have t2 := s1.trans s2
    refine ⟨_, rfl, _, rfl, _, rfl, prod_use (hq.same t2).k (hx.same t2).k (by decide) (by decide) (by decide) (by decide) fun y3 H3 s3 a3 => ?_⟩
    have t3 := t2.trans s3
    refine prod_use (hp.same t3).k a3.k (by decide) (by decide) (by decide) (by decide) fun y4 H4 s4 a4 => ?_
    refine same_use (a2.same (s3.trans s4)).k a4.k (fun k => by rw [prod_assoc]) ⟨_, rfl, iteF (hM _ _ ?_)⟩
    clear hM M
    replace hp := hp.same (t3.trans s4)
    replace hq := hq.same (t3.trans s4)
    replace q : ∀ H', Same H4 H' -> Q (.bl true) H' := fun H' z => q H' (t3.trans (s4.trans z))
    clear a1 a2 a3 a4 s1 s2 s3 s4 t2 t3 hx
    generalize H4 = H at hp hq q
    refine seq_abs fun M hM => ?_
    refine ⟨_, rfl, _, rfl, prod_use hp.k hq.k (by decide) (by decide) (by decide) (by decide) fun y1 H1 s1 a1 => ?_⟩
    refine exch_use (K := K) a1 (by decide) fun y2 H2 s2 a2 => ?_
    have t2 := s1.trans s2
    refine ⟨_, rfl, exch_use (K := K) (hp.same t2) (by decide) fun y3 H3 s3 a3 => ?_⟩
    have t3 := t2.trans s3
    refine ⟨_, rfl, exch_use (K := K) (hq.same t3) (by decide) fun y4 H4 s4 a4 => ?_⟩
    refine prod_use (a3.same s4).k a4.k (by decide) (by decide) (by decide) (by decide) fun y5 H5 s5 a5 => ?_
    refine same_use (a2.same (s3.trans (s4.trans s5))).k a5.k (fun k => by rw [prod_sw]) ⟨_, rfl, iteF (hM _ _ ?_)⟩
    clear hM M
    replace hp := hp.same (t3.trans (s4.trans s5))
    replace hq := hq.same (t3.trans (s4.trans s5))
    replace q : ∀ H', Same H5 H' -> Q (.bl true) H' := fun H' z => q H' (t3.trans (s4.trans (s5.trans z)))
    clear a1 a2 a3 a4 a5 s1 s2 s3 s4 s5 t2 t3
    generalize H5 = H at hp hq q
    refine seq_abs fun M hM => ?_
    refine ⟨by show 3 <= sizeLine; decide, fun e1 he1 => ⟨by show 1 <= sizeLine; decide, fun e2 he2 => ?_⟩⟩
    have s1 := (Same.new (o := HO.tup [.int 0, .int 0, .int 2]) he1)
    have s2 := (Same.new (o := HO.tup [.ref e1]) he2)
    have t2 := s1.trans s2
    have two : Pa (upd (upd H e1 (.tup [.int 0, .int 0, .int 2])) e2 (.tup [.ref e1])) (.ref e2) [(0, 0, 2)] 1 2 0 := by
      refine ⟨[(0, 0, 2)], ⟨e2, [.ref e1], rfl, upd_same, .cons ⟨e1, rfl, s2 _ _ upd_same⟩ .nil⟩, poly_self (List.pairwise_singleton _ _) (fun t ht => by rw [List.mem_singleton.mp ht]; decide), by decide, by decide, fun t ht => by rw [List.mem_singleton.mp ht]; decide⟩
    generalize upd (upd H e1 (.tup [.int 0, .int 0, .int 2])) e2 (.tup [.ref e1]) = H2 at t2 two ⊢
    refine ⟨_, rfl, _, rfl, prod_use (hp.same t2).k (hq.same t2).k (by decide) (by decide) (by decide) (by decide) fun y3 H3 s3 a3 => ?_⟩
    refine prod_use (two.same s3).k a3.k (by decide) (by decide) (by decide) (by decide) fun y4 H4 s4 a4 => ?_
    refine hM _ _ ?_
    clear hM M
    have t4 := t2.trans (s3.trans s4)
    replace hp := hp.same t4
    replace hq := hq.same t4
    replace q : ∀ H', Same H4 H' -> Q (.bl true) H' := fun H' z => q H' (t4.trans z)
    clear two a3 s1 s2 s3 s4 t2 t4
    generalize H4 = H at hp hq q a4
    refine ⟨_, rfl, _, rfl, sum_use hp.k hq.k (by decide) fun y1 H1 s1 a1 => ?_⟩
    refine pow_use a1.k (by decide) (by decide) (by decide) fun y2 H2 s2 a2 => ?_
    have t2 := s1.trans s2
    refine ⟨_, rfl, pow_use (hp.same t2).k (by decide) (by decide) (by decide) fun y3 H3 s3 a3 => ?_⟩
    have t3 := t2.trans s3
    refine ⟨_, rfl, sum_use a3 (a4.same t3).k (by decide) fun y5 H5 s5 a5 => ?_⟩
    have t5 := t3.trans s5
    refine ⟨_, rfl, pow_use (hq.same t5).k (by decide) (by decide) (by decide) fun y6 H6 s6 a6 => ?_⟩
    refine sum_use (a5.same s6).k a6 (by decide) fun y7 H7 s7 a7 => ?_
    refine same_use (a2.same (s3.trans (s5.trans (s6.trans s7)))) a7.k (square _ _) ?_
    exact q _ (t5.trans (s6.trans s7))
end
end My
namespace My
open PySem L2 PySem.NumText PyProof.Rows
def spLaw (K : W.Frag) : Sp := fun vs H Q _ => ∃ (a : Addr) (ns : List Int), vs = [.ref a] /\ SqL K H a (ns.map V.int) /\ ns.length <= 63 /\ ∀ H', Q (.bl true) H'
theorem tc_nrm : ∀ {ts : List T3}, (∀ t ∈ ts, TC t) -> nrm ts <= ts.length * 10 ^ 18
  | [], _ => Nat.zero_le _
  | t :: ts, h => by
    rw [nrm_cons, List.length_cons, Nat.add_mul, Nat.one_mul, Nat.add_comm]
    exact Nat.add_le_add (tc_nrm fun u hu => h u (List.mem_cons_of_mem _ hu)) (h t (List.mem_cons_self ..)).2.2.2.2
theorem tc_deg {ts : List T3} (h : ∀ t ∈ ts, TC t) : Deg (20 : Nat) ts := fun t ht => by
  obtain ⟨a, b, c, d, _⟩ := h t ht
  exact ⟨⟨a, b⟩, c, d⟩
theorem gath_use {K : W.Frag} {H : Hp} {a : Addr} {xs : List V} {ts : List T3} {n : Nat} {Q : VK} (ha : H a = some (.lst xs)) (ht : Paired (TermAt H) xs ts) (tc : ∀ t ∈ ts, TC t) (hl : ts.length <= n) (hn : n < 100000) (q : ∀ v H', Same H H' -> Pa H' v ts n (n * 10 ^ 18) 20 -> Q v H') : spGath K [.ref a] H Q E0 :=
  ⟨.l, a, xs, ts, rfl, SqL.of ha, termsK ht, by lia, fun v L H' s pi le pa => q v H' s ⟨L, pa, pi, by lia, Nat.le_trans pi.nrm (Nat.le_trans (tc_nrm tc) (Nat.mul_le_mul_right _ hl)), pi.deg (tc_deg tc)⟩⟩
structure Told (H : Hp) (v : V) : Prop where
  ex : ∃ L, PolyAt H v L /\ (∀ t ∈ L, TmOk t) /\ L.Pairwise keyLt /\ L.length <= 100
theorem Pa.told {H : Hp} {v : V} {ts : List T3} {n a : Nat} (h : Pa H v ts n a 20) (hn : n <= 100) (ha : a < 10 ^ 60) : Told H v := by
  obtain ⟨L, pa, pi, l, nr, dg⟩ := h.ex
  refine ⟨L, pa, fun t ht => ?_, pi.up, by lia⟩
  obtain ⟨⟨a1, a2⟩, a3, a4⟩ := dg t ht
  exact ⟨a1, by lia, a3, by lia, ((pi.mem t).mp ht).1, Nat.lt_of_le_of_lt (Nat.le_trans (nrm_mem ht) nr) ha⟩
theorem Told.same {H H' : Hp} {v : V} (h : Told H v) (s : Same H H') : Told H' v := by
  obtain ⟨L, pa, r⟩ := h.ex
  exact ⟨L, pa.same s, r⟩
structure TinyAt (H : Hp) (v : V) (ts : List T3) : Prop where
  ex : ∃ L, PolyAt H v L /\ Tny ts L
theorem TinyAt.same {H H' : Hp} {v : V} {ts : List T3} (h : TinyAt H v ts) (s : Same H H') : TinyAt H' v ts := by
  obtain ⟨L, pa, r⟩ := h.ex
  exact ⟨L, pa.same s, r⟩
def ngT (t : T3) : T3 := (t.1, t.2.1, 0 - t.2.2)
theorem coef_ng (k : Int × Int) : ∀ L : List T3, coef (L.map ngT) k = - coef L k
  | [] => rfl
  | t :: L => by
    rw [List.map_cons, coef_cons, coef_cons, coef_ng k L]
    show (if k3 t = k then 0 - t.2.2 else 0) + _ = _
    split <;> lia
theorem cut5 (xs : List V) : cutV xs none (some 5) = xs.take 5 := by
  have e0 : HT.sIx xs.length 0 none = 0 := rfl
  have e5 : HT.sIx xs.length xs.length (some 5) = min 5 xs.length := HT.sIx_nat xs.length xs.length 5
  unfold cutV
  rw [e0, e5, List.drop_zero, Nat.sub_zero]
  by_cases h : 5 <= xs.length
  · rw [Nat.min_eq_left h]
  · rw [Nat.min_eq_right (by lia), List.take_of_length_le (Nat.le_refl _), List.take_of_length_le (by lia)]
theorem pair_take28 {F : V -> T3 -> Prop} : ∀ {xs : List V} {ts : List T3} (n : Nat), Paired F xs ts -> Paired F (xs.take n) (ts.take n)
  | _, _, 0, _ => .nil
  | _, _, n + 1, .nil => .nil
  | _, _, n + 1, .cons h t => .cons h (pair_take28 n t)
theorem paired_app28 {α β : Type} {F : α -> β -> Prop} {l₁ : List α} {l₂ : List β} {m₁ : List α} {m₂ : List β} (h : Paired F l₁ l₂) (h2 : Paired F m₁ m₂) : Paired F (l₁ ++ m₁) (l₂ ++ m₂) := by
  induction h with
  | nil => exact h2
  | cons r _ ih => exact .cons r ih
section
variable {P : Program} {w : World} {K : W.Frag} {mg : Str -> Option Value} {base : Heap}
theorem scLaw : FnScope ["_law_script", "_law_rows", "_law_p", "_law_q", "_law_r", "_law_both", "_law_one", "_law_tiny_here"] ["_law_script"] (defScope sLaw) := ⟨rfl, rfl, rfl, by decide +kernel, rfl, by decide +kernel, by decide +kernel⟩
theorem ndR : (["_law_row"] : List Str).Nodup := by decide +kernel
theorem ok_law {f : Addr} {fd : FuncData} (F : Fun K "law" "law" sLaw f fd) (T : TxP mg) (hrev : mg "reversed" = none) (DA : Def P w K mg base 1 "_law_at" ["_law_script", "_law_k"] (spAt K)) (D3 : Def P w K mg base 4 "_law_three" ["_law_script"] (spThree K))
    (DG : Def P w K mg base 1 "gathered" ["terms"] (spGath K)) (DS : Def P w K mg base 2 "sum_of" ["one", "other"] (spSumOf K)) (DE : Def P w K mg base 2 "exchanged" ["poly"] (spExch K)) (DU : Def P w K mg base 1 "_law_turned" ["_law_terms", "_law_cell"] (spTurned K)) (DT : Def P w K mg base 2 "_law_tiny" ["_law_terms"] (spTiny K))
    (DC : Def P w K mg base 3 "_law_parts" ["_law_one", "_law_other"] (spParts K)) (DM : Def P w K mg base 4 "_law_products" ["_law_p", "_law_q", "_law_r"] (spProducts K)) (DP : Def P w K mg base 2 "poly_text" ["poly"] (spPText K)) (DR : Def P w K mg base 4 "read_poly" ["text"] spRPoly) :
    FnOk P w K mg base CX0 5 f fd ["_law_script"] (spLaw K) := by
  refine F.ok scLaw (fun vs H Q E h => ?_) (fun cdv A outer s H vs Q E hr h => ?_)
  · obtain ⟨a, ns, rfl, _⟩ := h; rfl
  · obtain ⟨a, ns, rfl, hq, hlen, q⟩ := h
    have hr1 : Room 1 _ := hr.mono (by decide)
    have hr2 : Room 2 _ := hr.mono (by decide)
    have hr3 : Room 3 _ := hr.mono (by decide)
    refine ⟨_, pss_cons (ps_set (i := 1) scLaw.nd rfl (Or.inl rfl) (pe_def D3 hr rfl (pa_cons (pv 0) pa_nil)))
      (pss_cons (ps_asg (pe_comp (N' := ["_law_row"]) (fr := [none]) (compOk_of (by rfl)) rfl (pi_seqK K .l (pv 1)) (fun _ _ _ _ => pg_name (i := 0) ndR rfl (Or.inl rfl) (Or.inr rfl)) (fun _ _ _ _ => pifs_nil) (fun _ _ _ _ => pe_def DG hr1 rfl (pa_cons (pv 0) pa_nil))) (pg_tupL (n := 3) rfl (pgs_cons (pg_name (i := 2) scLaw.nd rfl (Or.inl rfl)) (pgs_cons (pg_name (i := 3) scLaw.nd rfl (Or.inl rfl)) (pgs_cons (pg_name (i := 4) scLaw.nd rfl (Or.inl rfl)) pgs_nil)))))
      (pss_cons (ps_set (i := 5) scLaw.nd rfl (Or.inl rfl) (pe_def DS hr2 rfl (pa_cons (pv 2) (pa_cons (pv 3) pa_nil))))
      (pss_cons (ps_if (pt_cmpR (op_neSK K (units66 hr)) (pe_def DG hr1 rfl (pa_cons (pe_def DU hr1 rfl (pa_cons (pe_op op_cat (pe_ix (ix_listK K) (pv 1) pe_int (fun _ _ => rfl)) (pe_ix (ix_listK K) (pv 1) pe_int (fun _ _ => rfl))) (pa_cons (pe_def DA hr1 rfl (pa_cons (pv 0) (pa_cons pe_int pa_nil))) pa_nil))) pa_nil)) (pv 5) (nomark _)) (pss_one (ps_ret pe_bl)) pss_nil)
      (pss_cons (ps_if (PW.pt (pw_or (pt_cmpR (op_neSK K (units66 hr)) (pe_def DS hr2 rfl (pa_cons (pv 5) (pa_cons (pv 4) pa_nil))) (pe_def DS hr2 rfl (pa_cons (pv 2) (pa_cons (pe_def DS hr2 rfl (pa_cons (pv 3) (pa_cons (pv 4) pa_nil))) pa_nil))) (nomark _)) (pw_or1 (pt_cmpR (op_neSK K (units66 hr)) (pe_def DE hr2 rfl (pa_cons (pv 5) pa_nil)) (pe_def DS hr2 rfl (pa_cons (pe_def DE hr2 rfl (pa_cons (pv 2) pa_nil)) (pa_cons (pe_def DE hr2 rfl (pa_cons (pv 3) pa_nil)) pa_nil))) (nomark _))))) (pss_one (ps_ret pe_bl)) pss_nil)
      (pss_cons (ps_if (pt_cmpR (op_neSK K (units66 hr)) (pe_def DS hr2 rfl (pa_cons (pv 2) (pa_cons (pe_callTy (call_tuple_ofK K) rfl T.tuple boot_tuple' (pa_cons (pe_comp (N' := ["_law_i", "_law_j", "_law_times"]) (fr := [none, none, none]) (compOk_of (by rfl)) rfl (pi_seqK K .t (pv 2)) (g := gTup K 3 (gCons (gName 0) (gCons (gName 1) (gCons (gName 2) gNil)))) (fun _ _ _ _ => pg_tupK K 3 rfl (pgs_cons (pg_name (i := 0) ndT3 rfl (Or.inl rfl) (Or.inr rfl)) (pgs_cons (pg_name (i := 1) ndT3 rfl (Or.inl rfl) (Or.inr rfl)) (pgs_cons (pg_name (i := 2) ndT3 rfl (Or.inl rfl) (Or.inr rfl)) pgs_nil)))) (fun _ _ _ _ => pifs_nil) (fun _ _ _ _ => pe_tup (pa_cons (pv 0) (pa_cons (pv 1) (pa_cons (pe_op op_sub pe_int (pv 2)) pa_nil))))) pa_nil)) pa_nil))) (pe_tup pa_nil) (nomark _)) (pss_one (ps_ret pe_bl)) pss_nil)
      (pss_cons (ps_for PassesOwn.never rfl (pi_seqK K .l (pe_lst (pa_cons (pv 2) (pa_cons (pv 3) (pa_cons (pv 4) (pa_cons (pv 5) pa_nil)))))) (pg_name (i := 6) scLaw.nd rfl (Or.inl rfl)) (pss_one (ps_if (pt_cmpR (op_neSK K (units66 hr)) (pe_def DR hr rfl (pa_cons (pe_def DP hr2 rfl (pa_cons (pv 6) pa_nil)) pa_nil)) (pv 6) (nomark _)) (pss_one (ps_ret pe_bl)) pss_nil)))
      (pss_cons (ps_setComp (i := 7) scLaw.nd rfl (Or.inl rfl) (N' := ["_law_row"]) (fr := [none]) (compOk_of (by rfl)) rfl (pi_seqK K .l (pv 1)) (fun _ _ _ _ => pg_name (i := 0) ndR rfl (Or.inl rfl) (Or.inr rfl)) (fun _ _ _ _ => pifs_nil) (fun _ _ _ _ => pe_def DT hr2 rfl (pa_cons (pv 0) pa_nil)))
      (pss_cons (ps_if (PW.pt (pw_or (pt_not (pt_val (pe_def DC hr3 rfl (pa_cons (pe_ix (ix_listK K) (pv 7) pe_int (fun _ _ => rfl)) (pa_cons (pe_ix (ix_listK K) (pv 7) pe_int (fun _ _ => rfl)) pa_nil))))) (pw_or1 (pt_not (pt_val (pe_def DC hr3 rfl (pa_cons (pe_ix (ix_listK K) (pv 7) pe_int (fun _ _ => rfl)) (pa_cons (pe_def DT hr2 rfl (pa_cons (pe_listrev rfl rfl T.list rfl hrev (pe_ix (ix_listK K) (pv 1) pe_int (fun _ _ => rfl))) pa_nil)) pa_nil)))))))) (pss_one (ps_ret pe_bl)) pss_nil)
      (pss_cons (ps_asg (pe_comp (N' := ["_law_row"]) (fr := [none]) (compOk_of (by rfl)) rfl (pi_seqK K .l (pv 1)) (fun _ _ _ _ => pg_name (i := 0) ndR rfl (Or.inl rfl) (Or.inr rfl)) (fun _ _ _ _ => pifs_nil) (fun _ _ _ _ => pe_def DG hr1 rfl (pa_cons (pe_slice (sl_listK K) (pv 0) po_none (po_some pe_int)) pa_nil))) (pg_tupL (n := 3) rfl (pgs_cons (pg_name (i := 2) scLaw.nd rfl (Or.inl rfl)) (pgs_cons (pg_name (i := 3) scLaw.nd rfl (Or.inl rfl)) (pgs_cons (pg_name (i := 4) scLaw.nd rfl (Or.inl rfl)) pgs_nil)))))
      (pss_one (ps_ret (pe_def DM hr rfl (pa_cons (pv 2) (pa_cons (pv 3) (pa_cons (pv 4) pa_nil))))))))))))))), ?_⟩
    refine seq_abs fun M hM => ?_
    refine ⟨_, rfl, a, ns, rfl, hq, hlen, fun l v0 v1 v2 ts0 ts1 ts2 H1 s1 hl r0 r1 r2 => hM _ _ ?_⟩
    clear hM M
    replace hq := s1.seq hq
    clear s1
    generalize H1 = H at hl r0 r1 r2 hq
    refine seq_abs fun M hM => ?_
    refine ⟨_, rfl, l, rfl, ⟨_, SqL.of hl⟩, comp_seq (k := .l) (a := l) (xs := [v0, v1, v2]) (fun σ => ∃ u, σ = [u]) (fun i ys H' => Same H H' /\ Paired (fun v ts => Pa H' v ts 21 (21 * 10 ^ 18) 20) ys ([ts0, ts1, ts2].take i)) ⟨_, rfl⟩ ⟨Same.refl _, .nil⟩ (lt_line (by show 3 <= 100000; decide)) (fun i ys H' _ z => SqL.of (z.1 _ _ hl)) ?_ ?_⟩
    · have pr : Paired (RowAt H) [v0, v1, v2] [ts0, ts1, ts2] := .cons r0 (.cons r1 (.cons r2 .nil))
      rintro i x ys σ H2 N hx ⟨u, rfl⟩ ⟨sm, hy⟩ hN
      obtain ⟨t, e1, r⟩ := Paired.at pr hx
      obtain ⟨c, xs, rfl, hc, ht⟩ := (r.same sm).ex
      dsimp only [gName, List.set]
      refine yesT ⟨_, rfl, gath_use hc ht r.tc r.le (by decide) fun v H3 s3 pa => ?_⟩
      refine hN _ _ _ ⟨_, rfl⟩ ⟨sm.trans s3, ?_⟩ (by simp)
      rw [take_succ_of e1]
      exact L2.Paired.snoc (L2.Paired.mapP hy fun _ _ z => z.same s3) pa
    rintro ys H2 ⟨sm, hy⟩ l2 hl2
    obtain ⟨p, q', r', rfl, hp, hq', hr'⟩ : ∃ p q' r', ys = [p, q', r'] /\ Pa H2 p ts0 21 (21 * 10 ^ 18) 20 /\ Pa H2 q' ts1 21 (21 * 10 ^ 18) 20 /\ Pa H2 r' ts2 21 (21 * 10 ^ 18) 20 := by
      cases hy with
      | cons h0 t => cases t with
        | cons h1 t => cases t with
          | cons h2 t => cases t; exact ⟨_, _, _, rfl, h0, h1, h2⟩
    have s3 := Same.new (o := HO.lst [p, q', r']) hl2
    refine ⟨l2, _, rfl, SqL.of upd_same, rfl, _, _, rfl, _, _, rfl, _, _, rfl, rfl, hM _ _ ?_⟩
    clear hM M hy
    replace hp := hp.same s3
    replace hq' := hq'.same s3
    replace hr' := hr'.same s3
    replace hl := s3 _ _ (sm _ _ hl)
    replace r0 := r0.same (sm.trans s3)
    replace r1 := r1.same (sm.trans s3)
    replace r2 := r2.same (sm.trans s3)
    replace hq := (sm.trans s3).seq hq
    clear s3 sm
    generalize upd H2 l2 (.lst [p, q', r']) = H at hp hq' hr' hl r0 r1 r2 hq ⊢
    dsimp only [List.set]
    refine seq_abs fun M hM => ?_
    refine ⟨_, rfl, _, rfl, sum_use hp.k hq'.k (by decide) fun b H3 s3 pb => hM _ _ ?_⟩
    clear hM M
    replace hp := hp.same s3
    replace hq' := hq'.same s3
    replace hr' := hr'.same s3
    replace hl := s3 _ _ hl
    replace r0 := r0.same s3
    replace r1 := r1.same s3
    replace r2 := r2.same s3
    replace hq := s3.seq hq
    clear s3
    generalize H3 = H at hp hq' hr' hl r0 r1 r2 hq pb
    refine seq_abs fun M hM => ?_
    obtain ⟨c0, xs0, e0, hc0, ht0⟩ := r0.ex
    obtain ⟨c1, xs1, e1, hc1, ht1⟩ := r1.ex
    have x0 := Paired.length ht0
    have x1 := Paired.length ht1
    have l0 := r0.le
    have l1 := r1.le
    refine ⟨_, rfl, l, _, _, _, rfl, rfl, SqL.of hl, atI_nat (j := 0) rfl, _, rfl, l, _, _, _, rfl, rfl, SqL.of hl, atI_nat (j := 1) rfl, c0, c1, xs0, xs1, e0, e1, hc0, hc1, line_of (by lia), fun p5 hp5 => ?_⟩
    have s5 := Same.new (o := HO.lst (xs0 ++ xs1)) hp5
    have h5 : (upd H p5 (.lst (xs0 ++ xs1))) p5 = some (.lst (xs0 ++ xs1)) := upd_same
    have ht5 := terms_same (paired_app28 ht0 ht1) s5
    generalize upd H p5 (.lst (xs0 ++ xs1)) = H5 at s5 h5 ht5 ⊢
    refine ⟨_, rfl, a, ns, 0, rfl, s5.seq hq, ?_⟩
    refine ⟨p5, _, xs0 ++ xs1, rfl, h5, by rw [List.length_append]; lia, fun l6 ys6 H6 s6 pm h6 => ?_⟩
    obtain ⟨us, pu, ht6⟩ := pair_perm pm (terms_same ht5 s6)
    refine gath_use (n := 42) h6 ht6 (fun t ht => (List.mem_append.mp (pu.mem_iff.mp ht)).elim (r0.tc t) (r1.tc t)) (by rw [pu.length_eq, List.length_append]; lia) (by decide) fun x7 H7 s7 p7 => ?_
    have t7 := s5.trans (s6.trans s7)
    refine ⟨_, rfl, same_use p7.k (pb.same t7).k (fun k => coef_perm pu k) ⟨_, rfl, iteF (hM _ _ ?_)⟩⟩
    clear hM M ht0 ht1 hc0 hc1 h5 ht5 ht6 h6 pm pu p7 e0 e1 l0 l1 x0 x1
    replace hp := hp.same t7
    replace hq' := hq'.same t7
    replace hr' := hr'.same t7
    replace hl := t7 _ _ hl
    replace r0 := r0.same t7
    replace r1 := r1.same t7
    replace r2 := r2.same t7
    replace pb := pb.same t7
    clear t7 s5 s6 s7 hq hlen
    generalize H7 = H at hp hq' hr' hl r0 r1 r2 pb
    refine seq_abs fun M hM => ?_
    refine ⟨_, rfl, _, rfl, sum_use pb.k hr'.k (by decide) fun x1 H1 s1 p1 => ?_⟩
    refine ⟨_, rfl, _, rfl, _, rfl, sum_use (hq'.same s1).k (hr'.same s1).k (by decide) fun x2 H2 s2 p2 => ?_⟩
    have t2 := s1.trans s2
    refine sum_use (hp.same t2).k p2.k (by decide) fun x3 H3 s3 p3 => ?_
    have t3 := t2.trans s3
    refine same_use (p1.same (s2.trans s3)).k p3.k (fun k => by rw [List.append_assoc]) ⟨_, rfl, iteF ?_⟩
    refine ⟨_, rfl, exch_use (K := K) (pb.same t3) (by decide) fun x4 H4 s4 p4 => ?_⟩
    have t4 := t3.trans s4
    refine ⟨_, rfl, exch_use (K := K) (hp.same t4) (by decide) fun x5 H5 s5 p5 => ?_⟩
    have t5 := t4.trans s5
    refine ⟨_, rfl, exch_use (K := K) (hq'.same t5) (by decide) fun x6 H6 s6 p6 => ?_⟩
    refine sum_use (p5.same s6).k p6.k (by decide) fun x7 H7 s7 p7 => ?_
    have t7 := t5.trans (s6.trans s7)
    refine same_use (p4.same (s5.trans (s6.trans s7))).k p7.k (fun k => by rw [List.map_append]) ⟨_, rfl, iteF (hM _ _ ?_)⟩
    clear hM M p1 p2 p3 p4 p5 p6 p7
    replace hp := hp.same t7
    replace hq' := hq'.same t7
    replace hr' := hr'.same t7
    replace hl := t7 _ _ hl
    replace r0 := r0.same t7
    replace r1 := r1.same t7
    replace r2 := r2.same t7
    replace pb := pb.same t7
    clear t7 s1 s2 s3 s4 s5 s6 s7 t2 t3 t4 t5
    generalize H7 = H at hp hq' hr' hl r0 r1 r2 pb
    refine seq_abs fun M hM => ?_
    obtain ⟨L, pL, iL, lL, nL, dL⟩ := hp.ex
    obtain ⟨c, rs, e, hc, ht⟩ := pL.ex
    subst e
    have rl := Paired.length ht
    refine ⟨_, rfl, _, rfl, c, rfl, ⟨_, SqT.of hc⟩, comp_seq (k := .t) (a := c) (xs := rs) (fun σ => ∃ u v r, σ = [u, v, r]) (fun i ys H' => Same H H' /\ Paired (TermAt H') ys ((L.take i).map ngT)) ⟨_, _, _, rfl⟩ ⟨Same.refl _, .nil⟩ (natB (by lia)) (fun i ys H' _ z => SqT.of (z.1 _ _ hc)) ?_ ?_⟩
    · rintro i z ys σ H' N hz ⟨u, v, r, rfl⟩ ⟨sm, hy⟩ hN
      obtain ⟨t, e1, b, rfl, hb⟩ := Paired.at ht hz
      refine ⟨b, _, rfl, SqT.of (sm _ _ hb), rfl, _, _, rfl, _, _, rfl, _, _, rfl, rfl, ?_⟩
      dsimp only [gName, List.set]
      refine yesT ⟨_, rfl, _, rfl, _, rfl, _, _, rfl, rfl, by show 3 <= sizeLine; decide, fun d hd => ?_⟩
      refine hN _ _ _ ⟨_, _, _, rfl⟩ ⟨sm.trans (Same.new hd), ?_⟩ (by simp)
      rw [take_succ_of e1, List.map_append]
      exact L2.Paired.snoc (terms_same hy (Same.new hd)) ⟨d, rfl, upd_same⟩
    rintro ys H1 ⟨s1, hy⟩ l2 hl2
    rw [rl, List.take_length] at hy
    refine ⟨l2, ys, rfl, .inl ⟨SqL.of upd_same, fun c2 hc2 => ?_⟩⟩
    have s2 := (Same.new (o := HO.lst ys) hl2).trans (Same.new (o := HO.tup ys) hc2)
    have h2 : (upd (upd H1 l2 (.lst ys)) c2 (.tup ys)) c2 = some (.tup ys) := upd_same
    have pN : PolyAt (upd (upd H1 l2 (.lst ys)) c2 (.tup ys)) (.ref c2) (L.map ngT) := ⟨c2, ys, rfl, h2, terms_same hy s2⟩
    have t2 := s1.trans s2
    generalize upd (upd H1 l2 (.lst ys)) c2 (.tup ys) = H2 at pN t2 ⊢
    clear s2 h2 s1 hy
    refine ⟨_, _, L, L.map ngT, rfl, (pL.same t2).K, pN.K, by rw [List.length_map]; lia, fun x N H3 s3 pi _ pa => ?_⟩
    have eN : N = [] := by
      have nl : PolyIs [] [] := ⟨.nil, fun t => Iff.intro (fun z => nomatch z) (fun z => absurd z.2 z.1)⟩
      refine pi.uniq nl fun k => ?_
      rw [coef_app, coef_ng]
      show _ = (0 : Int)
      lia
    rw [eN] at pa
    refine ⟨Nat.zero_le _, fun e4 he4 => same_poly (pa.same (Same.new he4)) ⟨e4, [], rfl, upd_same, .nil⟩ ⟨_, rfl, iteF (hM _ _ ?_)⟩⟩
    have t4 := t2.trans (s3.trans (Same.new (o := HO.tup []) he4))
    clear hM M iL pN pa eN pi pL dL nL lL ht hc rl
    replace hp := hp.same t4
    replace hq' := hq'.same t4
    replace hr' := hr'.same t4
    replace hl := t4 _ _ hl
    replace r0 := r0.same t4
    replace r1 := r1.same t4
    replace r2 := r2.same t4
    replace pb := pb.same t4
    clear t4 t2 s3
    generalize upd H3 e4 (.tup []) = H at hp hq' hr' hl r0 r1 r2 pb ⊢
    refine seq_abs fun M hM => ?_
    refine ⟨_, rfl, _, rfl, _, rfl, _, rfl, by show 4 <= sizeLine; decide, fun g hg => ?_⟩
    have sg := Same.new (o := HO.lst [.ref c, q', r', b]) hg
    have hg' : (upd H g (.lst [.ref c, q', r', b])) g = some (.lst [.ref c, q', r', b]) := upd_same
    have tol : ∀ x ∈ [V.ref c, q', r', b], Told H x := by
      intro x hx
      simp only [List.mem_cons, List.not_mem_nil, or_false] at hx
      rcases hx with rfl | rfl | rfl | rfl
      · exact hp.told (by decide) (by decide +kernel)
      · exact hq'.told (by decide) (by decide +kernel)
      · exact hr'.told (by decide) (by decide +kernel)
      · exact pb.told (by decide) (by decide +kernel)
    clear hp hq' hr' pb
    replace tol : ∀ x ∈ [V.ref c, q', r', b], Told (upd H g (.lst [.ref c, q', r', b])) x := fun x hx => (tol x hx).same sg
    replace hl := sg _ _ hl
    replace r0 := r0.same sg
    replace r1 := r1.same sg
    replace r2 := r2.same sg
    clear sg
    generalize upd H g (.lst [.ref c, q', r', b]) = H at hg' tol hl r0 r1 r2 ⊢
    refine ⟨g, rfl, ⟨_, SqL.of hg'⟩, for_seq (k := .l) (K := K) (a := g) (xs := [.ref c, q', r', b]) (fun i σ H' => (∃ u, σ = [some (.ref a), some (.ref l), some (.ref c), some q', some r', some b, u, none]) /\ Same H H') ⟨⟨_, rfl⟩, Same.refl _⟩ (fun i σ H' _ z => SqL.of (z.2 _ _ hg')) ?_ ?_⟩
    · rintro i x σ H2 hx ⟨⟨u, rfl⟩, sm⟩
      obtain ⟨L, pa, ok, up, le⟩ := ((tol x (List.mem_of_getElem? hx)).same sm).ex
      dsimp only [gName, List.set]
      refine ⟨_, rfl, x, L, rfl, pa, ok, le, fun H3 s3 => ⟨L, rfl, ok, up, le, fun tv H4 s4 pt => ⟨_, rfl, same_poly pt (pa.same (s3.trans s4)) ⟨_, rfl, iteF ⟨⟨_, rfl⟩, sm.trans (s3.trans s4)⟩⟩⟩⟩⟩
    rintro σ H2 ⟨⟨u, rfl⟩, sm⟩
    refine hM _ _ ?_
    clear hM M tol hg'
    replace hl := sm _ _ hl
    replace r0 := r0.same sm
    replace r1 := r1.same sm
    replace r2 := r2.same sm
    clear sm
    generalize H2 = H at hl r0 r1 r2
    refine seq_abs fun M hM => ?_
    have pr : Paired (RowAt H) [v0, v1, v2] [ts0, ts1, ts2] := .cons r0 (.cons r1 (.cons r2 .nil))
    refine ⟨_, rfl, l, rfl, ⟨_, SqL.of hl⟩, comp_seq (k := .l) (a := l) (xs := [v0, v1, v2]) (fun σ => ∃ u, σ = [u]) (fun i ys H' => Same H H' /\ Paired (TinyAt H') ys ([ts0, ts1, ts2].take i)) ⟨_, rfl⟩ ⟨Same.refl _, .nil⟩ (lt_line (by show 3 <= 100000; decide)) (fun i ys H' _ z => SqL.of (z.1 _ _ hl)) ?_ ?_⟩
    · rintro i x ys σ H2 N hx ⟨u, rfl⟩ ⟨sm, hy⟩ hN
      obtain ⟨t, e1, r⟩ := Paired.at pr hx
      obtain ⟨c, xs, rfl, hc, ht⟩ := (r.same sm).ex
      dsimp only [gName, List.set]
      have le := r.le
      refine yesT ⟨_, rfl, c, xs, t, rfl, hc, ht, by lia, fun v L H3 s3 pi _ pa => ?_⟩
      refine hN _ _ _ ⟨_, rfl⟩ ⟨sm.trans s3, ?_⟩ (by simp)
      rw [take_succ_of e1]
      exact L2.Paired.snoc (L2.Paired.mapP hy fun _ _ z => z.same s3) ⟨L, pa, pi, le⟩
    rintro ys H2 ⟨sm, hy⟩ l2 hl2
    obtain ⟨y0, y1, y2, rfl, k0, k1⟩ : ∃ y0 y1 y2, ys = [y0, y1, y2] /\ TinyAt H2 y0 ts0 /\ TinyAt H2 y1 ts1 := by
      cases hy with
      | cons h0 t => cases t with
        | cons h1 t => cases t with
          | cons h2 t => cases t; exact ⟨_, _, _, rfl, h0, h1⟩
    have s3 := Same.new (o := HO.lst [y0, y1, y2]) hl2
    have hl3 : (upd H2 l2 (.lst [y0, y1, y2])) l2 = some (.lst [y0, y1, y2]) := upd_same
    refine hM _ _ ?_
    clear hM M hy pr
    replace k0 := k0.same s3
    replace k1 := k1.same s3
    replace hl := s3 _ _ (sm _ _ hl)
    replace r0 := r0.same (sm.trans s3)
    replace r1 := r1.same (sm.trans s3)
    replace r2 := r2.same (sm.trans s3)
    clear s3 sm
    generalize upd H2 l2 (.lst [y0, y1, y2]) = H at k0 k1 hl r0 r1 r2 hl3 ⊢
    dsimp only [List.set]
    refine seq_abs fun M hM => ?_
    obtain ⟨L0, pL0, tn0⟩ := k0.ex
    obtain ⟨L1, pL1, tn1⟩ := k1.ex
    refine ⟨_, rfl, l2, _, _, _, rfl, rfl, SqL.of hl3, atI_nat (j := 0) rfl, _, rfl, l2, _, _, _, rfl, rfl, SqL.of hl3, atI_nat (j := 1) rfl, _, _, L0, L1, _, _, rfl, pL0, pL1, tn0, tn1, fun H3 s3 => ⟨_, rfl, iteF ?_⟩⟩
    obtain ⟨c0, xs0, e0, hc0, ht0⟩ := (r0.same s3).ex
    have x0 := Paired.length ht0
    have le0 := r0.le
    refine ⟨_, rfl, l2, _, _, _, rfl, rfl, SqL.of (s3 _ _ hl3), atI_nat (j := 0) rfl, _, rfl, l, _, _, _, rfl, rfl, SqL.of (s3 _ _ hl), atI_nat (j := 0) rfl, c0, xs0, e0, SqL.of hc0, by lia, fun p4 hp4 => ?_⟩
    have s4 := Same.new (o := HO.lst xs0.reverse) hp4
    obtain ⟨us, pu, ht4⟩ := pair_perm (List.reverse_perm xs0) (terms_same ht0 s4)
    have ul := pu.length_eq
    refine ⟨p4, xs0.reverse, us, rfl, upd_same, ht4, by lia, fun v5 L5 H5 s5 pi5 _ pa5 => ?_⟩
    have t5 := s3.trans (s4.trans s5)
    refine ⟨_, _, L0, L5, ts0, us, rfl, pL0.same t5, pa5, tn0, ⟨pi5, by lia⟩, fun H6 s6 => ⟨_, rfl, iteF (hM _ _ ?_)⟩⟩
    have t6 := t5.trans s6
    clear hM M pL0 pL1 tn0 tn1 k0 k1 hl3 ht0 hc0 ht4 pu pi5 pa5 e0 le0 x0 ul
    replace hl := t6 _ _ hl
    replace r0 := r0.same t6
    replace r1 := r1.same t6
    replace r2 := r2.same t6
    clear t6 t5 s3 s4 s5 s6
    generalize H6 = H at hl r0 r1 r2
    refine seq_abs fun M hM => ?_
    have pr : Paired (RowAt H) [v0, v1, v2] [ts0, ts1, ts2] := .cons r0 (.cons r1 (.cons r2 .nil))
    refine ⟨_, rfl, l, rfl, ⟨_, SqL.of hl⟩, comp_seq (k := .l) (a := l) (xs := [v0, v1, v2]) (fun σ => ∃ u, σ = [u]) (fun i ys H' => Same H H' /\ Paired (fun v ts => Pa H' v ts 5 (2 ^ 64) 20) ys (([ts0, ts1, ts2].take i).map fun ts => ts.take 5)) ⟨_, rfl⟩ ⟨Same.refl _, .nil⟩ (lt_line (by show 3 <= 100000; decide)) (fun i ys H' _ z => SqL.of (z.1 _ _ hl)) ?_ ?_⟩
    · rintro i x ys σ H2 N hx ⟨u, rfl⟩ ⟨sm, hy⟩ hN
      obtain ⟨t, e1, r⟩ := Paired.at pr hx
      obtain ⟨c, xs, rfl, hc, ht⟩ := (r.same sm).ex
      dsimp only [gName, List.set]
      refine yesT ⟨_, rfl, _, rfl, c, xs, rfl, SqL.of hc, fun p4 hp4 => ?_⟩
      rw [cut5]
      have s4 := Same.new (o := HO.lst (xs.take 5)) hp4
      refine gath_use (n := 5) upd_same (pair_take28 5 (terms_same ht s4)) (fun u hu => r.tc u (List.mem_of_mem_take hu)) (by rw [List.length_take]; lia) (by decide) fun v H3 s3 pa => ?_
      refine hN _ _ _ ⟨_, rfl⟩ ⟨sm.trans (s4.trans s3), ?_⟩ (by simp)
      rw [take_succ_of e1, List.map_append]
      refine L2.Paired.snoc (L2.Paired.mapP hy fun _ _ z => z.same (s4.trans s3)) ?_
      obtain ⟨L, a1, a2, a3, a4, a5⟩ := pa.ex
      exact ⟨L, a1, a2, a3, Nat.le_trans a4 (by decide +kernel), a5⟩
    rintro ys H2 ⟨sm, hy⟩ l3 hl3
    obtain ⟨y0, y1, y2, rfl, k0, k1, k2⟩ : ∃ y0 y1 y2, ys = [y0, y1, y2] /\ Pa H2 y0 (ts0.take 5) 5 (2 ^ 64) 20 /\ Pa H2 y1 (ts1.take 5) 5 (2 ^ 64) 20 /\ Pa H2 y2 (ts2.take 5) 5 (2 ^ 64) 20 := by
      cases hy with
      | cons h0 t => cases t with
        | cons h1 t => cases t with
          | cons h2 t => cases t; exact ⟨_, _, _, rfl, h0, h1, h2⟩
    have s3 := Same.new (o := HO.lst [y0, y1, y2]) hl3
    refine ⟨l3, _, rfl, SqL.of upd_same, rfl, _, _, rfl, _, _, rfl, _, _, rfl, rfl, hM _ _ ?_⟩
    clear hM M
    exact ⟨_, rfl, _, rfl, _, rfl, _, _, _, _, _, _, rfl, k0.same s3, k1.same s3, k2.same s3, fun H4 _ => q H4⟩
end
end My
namespace My
open PySem L2
theorem src_mk {K : W.Frag} {h : Heap} {mg : Str -> Option Value} {x : Str} {st : Stmt} {f : Addr} {ps : List Str} {oc : Value} {od an : Option Addr} {osl : Array (Option Value)} {kV doc pm cdv ct : Value} (X : K.In h) (G : h.Ns mainGlobals mg)
    (a : PySem.W.nsIn K mainGlobals x = some (some (.ref f))) (l : K.lookup f = some ⟨oc, od, .func (PySem.W.fnOf x x (defArgs st) (defBody st) (defScope st) .none kV doc pm an cdv ct), osl⟩) (c : PySem.W.codeIn K cdv x = true) (k : PySem.W.keepIn K (.ref f) = true)
    (hb : ∀ (kV doc pm : Value) (an : Option Addr) (cdv ct : Value) (us : List Value), us.length = ps.length -> bindArgs (PySem.W.fnOf x x (defArgs st) (defBody st) (defScope st) .none kV doc pm an cdv ct) ⟨us, []⟩ = pure (ps.zip us)) : Src K mg x st ps :=
  ⟨_, _, fun_mk (st := st) l c k, (fun_mk (st := st) l c k).binds hb, PySem.W.mg_of X G a⟩
theorem all_mk {l : PySem.W.OpenLaw} {w : World} {K : W.Frag} {h : Heap} {mg : Str -> Option Value} {fa : Addr} (X : K.In h) (G : h.Ns mainGlobals mg) (hfa : mg "law" = some (.ref fa))
    {f0 : Addr} {od0 an0 : Option Addr} {sl0 : Array (Option Value)} {oc0 kV0 dc0 pm0 cd0 ct0 : Value}
    (a0 : PySem.W.nsIn K mainGlobals "gathered" = some (some (.ref f0))) (l0 : K.lookup f0 = some ⟨oc0, od0, .func (PySem.W.fnOf "gathered" "gathered" (defArgs sGath) (defBody sGath) (defScope sGath) .none kV0 dc0 pm0 an0 cd0 ct0), sl0⟩) (c0 : PySem.W.codeIn K cd0 "gathered" = true) (k0 : PySem.W.keepIn K (.ref f0) = true)
    {f1 : Addr} {od1 an1 : Option Addr} {sl1 : Array (Option Value)} {oc1 kV1 dc1 pm1 cd1 ct1 : Value}
    (a1 : PySem.W.nsIn K mainGlobals "sum_of" = some (some (.ref f1))) (l1 : K.lookup f1 = some ⟨oc1, od1, .func (PySem.W.fnOf "sum_of" "sum_of" (defArgs sSumOf) (defBody sSumOf) (defScope sSumOf) .none kV1 dc1 pm1 an1 cd1 ct1), sl1⟩) (c1 : PySem.W.codeIn K cd1 "sum_of" = true) (k1 : PySem.W.keepIn K (.ref f1) = true)
    {f2 : Addr} {od2 an2 : Option Addr} {sl2 : Array (Option Value)} {oc2 kV2 dc2 pm2 cd2 ct2 : Value}
    (a2 : PySem.W.nsIn K mainGlobals "product_of" = some (some (.ref f2))) (l2 : K.lookup f2 = some ⟨oc2, od2, .func (PySem.W.fnOf "product_of" "product_of" (defArgs sProd) (defBody sProd) (defScope sProd) .none kV2 dc2 pm2 an2 cd2 ct2), sl2⟩) (c2 : PySem.W.codeIn K cd2 "product_of" = true) (k2 : PySem.W.keepIn K (.ref f2) = true)
    {f3 : Addr} {od3 an3 : Option Addr} {sl3 : Array (Option Value)} {oc3 kV3 dc3 pm3 cd3 ct3 : Value}
    (a3 : PySem.W.nsIn K mainGlobals "to_power" = some (some (.ref f3))) (l3 : K.lookup f3 = some ⟨oc3, od3, .func (PySem.W.fnOf "to_power" "to_power" (defArgs sToPow) (defBody sToPow) (defScope sToPow) .none kV3 dc3 pm3 an3 cd3 ct3), sl3⟩) (c3 : PySem.W.codeIn K cd3 "to_power" = true) (k3 : PySem.W.keepIn K (.ref f3) = true)
    {f4 : Addr} {od4 an4 : Option Addr} {sl4 : Array (Option Value)} {oc4 kV4 dc4 pm4 cd4 ct4 : Value}
    (a4 : PySem.W.nsIn K mainGlobals "exchanged" = some (some (.ref f4))) (l4 : K.lookup f4 = some ⟨oc4, od4, .func (PySem.W.fnOf "exchanged" "exchanged" (defArgs sExch) (defBody sExch) (defScope sExch) .none kV4 dc4 pm4 an4 cd4 ct4), sl4⟩) (c4 : PySem.W.codeIn K cd4 "exchanged" = true) (k4 : PySem.W.keepIn K (.ref f4) = true)
    {f5 : Addr} {od5 an5 : Option Addr} {sl5 : Array (Option Value)} {oc5 kV5 dc5 pm5 cd5 ct5 : Value}
    (a5 : PySem.W.nsIn K mainGlobals "worth_at" = some (some (.ref f5))) (l5 : K.lookup f5 = some ⟨oc5, od5, .func (PySem.W.fnOf "worth_at" "worth_at" (defArgs sWorthAt) (defBody sWorthAt) (defScope sWorthAt) .none kV5 dc5 pm5 an5 cd5 ct5), sl5⟩) (c5 : PySem.W.codeIn K cd5 "worth_at" = true) (k5 : PySem.W.keepIn K (.ref f5) = true)
    {f6 : Addr} {od6 an6 : Option Addr} {sl6 : Array (Option Value)} {oc6 kV6 dc6 pm6 cd6 ct6 : Value}
    (a6 : PySem.W.nsIn K mainGlobals "number_to_power" = some (some (.ref f6))) (l6 : K.lookup f6 = some ⟨oc6, od6, .func (PySem.W.fnOf "number_to_power" "number_to_power" (defArgs sPow) (defBody sPow) (defScope sPow) .none kV6 dc6 pm6 an6 cd6 ct6), sl6⟩) (c6 : PySem.W.codeIn K cd6 "number_to_power" = true) (k6 : PySem.W.keepIn K (.ref f6) = true)
    {f7 : Addr} {od7 an7 : Option Addr} {sl7 : Array (Option Value)} {oc7 kV7 dc7 pm7 cd7 ct7 : Value}
    (a7 : PySem.W.nsIn K mainGlobals "poly_text" = some (some (.ref f7))) (l7 : K.lookup f7 = some ⟨oc7, od7, .func (PySem.W.fnOf "poly_text" "poly_text" (defArgs sPText) (defBody sPText) (defScope sPText) .none kV7 dc7 pm7 an7 cd7 ct7), sl7⟩) (c7 : PySem.W.codeIn K cd7 "poly_text" = true) (k7 : PySem.W.keepIn K (.ref f7) = true)
    {f8 : Addr} {od8 an8 : Option Addr} {sl8 : Array (Option Value)} {oc8 kV8 dc8 pm8 cd8 ct8 : Value}
    (a8 : PySem.W.nsIn K mainGlobals "power_text" = some (some (.ref f8))) (l8 : K.lookup f8 = some ⟨oc8, od8, .func (PySem.W.fnOf "power_text" "power_text" (defArgs sPwText) (defBody sPwText) (defScope sPwText) .none kV8 dc8 pm8 an8 cd8 ct8), sl8⟩) (c8 : PySem.W.codeIn K cd8 "power_text" = true) (k8 : PySem.W.keepIn K (.ref f8) = true)
    {f9 : Addr} {od9 an9 : Option Addr} {sl9 : Array (Option Value)} {oc9 kV9 dc9 pm9 cd9 ct9 : Value}
    (a9 : PySem.W.nsIn K mainGlobals "read_poly" = some (some (.ref f9))) (l9 : K.lookup f9 = some ⟨oc9, od9, .func (PySem.W.fnOf "read_poly" "read_poly" (defArgs sRPoly) (defBody sRPoly) (defScope sRPoly) .none kV9 dc9 pm9 an9 cd9 ct9), sl9⟩) (c9 : PySem.W.codeIn K cd9 "read_poly" = true) (k9 : PySem.W.keepIn K (.ref f9) = true)
    {f10 : Addr} {od10 an10 : Option Addr} {sl10 : Array (Option Value)} {oc10 kV10 dc10 pm10 cd10 ct10 : Value}
    (a10 : PySem.W.nsIn K mainGlobals "read_term" = some (some (.ref f10))) (l10 : K.lookup f10 = some ⟨oc10, od10, .func (PySem.W.fnOf "read_term" "read_term" (defArgs sRTerm) (defBody sRTerm) (defScope sRTerm) .none kV10 dc10 pm10 an10 cd10 ct10), sl10⟩) (c10 : PySem.W.codeIn K cd10 "read_term" = true) (k10 : PySem.W.keepIn K (.ref f10) = true)
    {f11 : Addr} {od11 an11 : Option Addr} {sl11 : Array (Option Value)} {oc11 kV11 dc11 pm11 cd11 ct11 : Value}
    (a11 : PySem.W.nsIn K mainGlobals "read_times" = some (some (.ref f11))) (l11 : K.lookup f11 = some ⟨oc11, od11, .func (PySem.W.fnOf "read_times" "read_times" (defArgs sRTimes) (defBody sRTimes) (defScope sRTimes) .none kV11 dc11 pm11 an11 cd11 ct11), sl11⟩) (c11 : PySem.W.codeIn K cd11 "read_times" = true) (k11 : PySem.W.keepIn K (.ref f11) = true)
    {f12 : Addr} {od12 an12 : Option Addr} {sl12 : Array (Option Value)} {oc12 kV12 dc12 pm12 cd12 ct12 : Value}
    (a12 : PySem.W.nsIn K mainGlobals "read_power" = some (some (.ref f12))) (l12 : K.lookup f12 = some ⟨oc12, od12, .func (PySem.W.fnOf "read_power" "read_power" (defArgs sRPower) (defBody sRPower) (defScope sRPower) .none kV12 dc12 pm12 an12 cd12 ct12), sl12⟩) (c12 : PySem.W.codeIn K cd12 "read_power" = true) (k12 : PySem.W.keepIn K (.ref f12) = true)
    {f13 : Addr} {od13 an13 : Option Addr} {sl13 : Array (Option Value)} {oc13 kV13 dc13 pm13 cd13 ct13 : Value}
    (a13 : PySem.W.nsIn K mainGlobals "read_above_nought" = some (some (.ref f13))) (l13 : K.lookup f13 = some ⟨oc13, od13, .func (PySem.W.fnOf "read_above_nought" "read_above_nought" (defArgs sRAbove) (defBody sRAbove) (defScope sRAbove) .none kV13 dc13 pm13 an13 cd13 ct13), sl13⟩) (c13 : PySem.W.codeIn K cd13 "read_above_nought" = true) (k13 : PySem.W.keepIn K (.ref f13) = true)
    {f14 : Addr} {od14 an14 : Option Addr} {sl14 : Array (Option Value)} {oc14 kV14 dc14 pm14 cd14 ct14 : Value}
    (a14 : PySem.W.nsIn K mainGlobals "_law_at" = some (some (.ref f14))) (l14 : K.lookup f14 = some ⟨oc14, od14, .func (PySem.W.fnOf "_law_at" "_law_at" (defArgs sAt) (defBody sAt) (defScope sAt) .none kV14 dc14 pm14 an14 cd14 ct14), sl14⟩) (c14 : PySem.W.codeIn K cd14 "_law_at" = true) (k14 : PySem.W.keepIn K (.ref f14) = true)
    {f15 : Addr} {od15 an15 : Option Addr} {sl15 : Array (Option Value)} {oc15 kV15 dc15 pm15 cd15 ct15 : Value}
    (a15 : PySem.W.nsIn K mainGlobals "_law_digit" = some (some (.ref f15))) (l15 : K.lookup f15 = some ⟨oc15, od15, .func (PySem.W.fnOf "_law_digit" "_law_digit" (defArgs sDigit) (defBody sDigit) (defScope sDigit) .none kV15 dc15 pm15 an15 cd15 ct15), sl15⟩) (c15 : PySem.W.codeIn K cd15 "_law_digit" = true) (k15 : PySem.W.keepIn K (.ref f15) = true)
    {f16 : Addr} {od16 an16 : Option Addr} {sl16 : Array (Option Value)} {oc16 kV16 dc16 pm16 cd16 ct16 : Value}
    (a16 : PySem.W.nsIn K mainGlobals "_law_any_term" = some (some (.ref f16))) (l16 : K.lookup f16 = some ⟨oc16, od16, .func (PySem.W.fnOf "_law_any_term" "_law_any_term" (defArgs sAny) (defBody sAny) (defScope sAny) .none kV16 dc16 pm16 an16 cd16 ct16), sl16⟩) (c16 : PySem.W.codeIn K cd16 "_law_any_term" = true) (k16 : PySem.W.keepIn K (.ref f16) = true)
    {f17 : Addr} {od17 an17 : Option Addr} {sl17 : Array (Option Value)} {oc17 kV17 dc17 pm17 cd17 ct17 : Value}
    (a17 : PySem.W.nsIn K mainGlobals "_law_term" = some (some (.ref f17))) (l17 : K.lookup f17 = some ⟨oc17, od17, .func (PySem.W.fnOf "_law_term" "_law_term" (defArgs sTerm) (defBody sTerm) (defScope sTerm) .none kV17 dc17 pm17 an17 cd17 ct17), sl17⟩) (c17 : PySem.W.codeIn K cd17 "_law_term" = true) (k17 : PySem.W.keepIn K (.ref f17) = true)
    {f18 : Addr} {od18 an18 : Option Addr} {sl18 : Array (Option Value)} {oc18 kV18 dc18 pm18 cd18 ct18 : Value}
    (a18 : PySem.W.nsIn K mainGlobals "_law_three" = some (some (.ref f18))) (l18 : K.lookup f18 = some ⟨oc18, od18, .func (PySem.W.fnOf "_law_three" "_law_three" (defArgs sThree) (defBody sThree) (defScope sThree) .none kV18 dc18 pm18 an18 cd18 ct18), sl18⟩) (c18 : PySem.W.codeIn K cd18 "_law_three" = true) (k18 : PySem.W.keepIn K (.ref f18) = true)
    {f19 : Addr} {od19 an19 : Option Addr} {sl19 : Array (Option Value)} {oc19 kV19 dc19 pm19 cd19 ct19 : Value}
    (a19 : PySem.W.nsIn K mainGlobals "_law_turned" = some (some (.ref f19))) (l19 : K.lookup f19 = some ⟨oc19, od19, .func (PySem.W.fnOf "_law_turned" "_law_turned" (defArgs sTurned) (defBody sTurned) (defScope sTurned) .none kV19 dc19 pm19 an19 cd19 ct19), sl19⟩) (c19 : PySem.W.codeIn K cd19 "_law_turned" = true) (k19 : PySem.W.keepIn K (.ref f19) = true)
    {f20 : Addr} {od20 an20 : Option Addr} {sl20 : Array (Option Value)} {oc20 kV20 dc20 pm20 cd20 ct20 : Value}
    (a20 : PySem.W.nsIn K mainGlobals "_law_tiny" = some (some (.ref f20))) (l20 : K.lookup f20 = some ⟨oc20, od20, .func (PySem.W.fnOf "_law_tiny" "_law_tiny" (defArgs sTiny) (defBody sTiny) (defScope sTiny) .none kV20 dc20 pm20 an20 cd20 ct20), sl20⟩) (c20 : PySem.W.codeIn K cd20 "_law_tiny" = true) (k20 : PySem.W.keepIn K (.ref f20) = true)
    {f21 : Addr} {od21 an21 : Option Addr} {sl21 : Array (Option Value)} {oc21 kV21 dc21 pm21 cd21 ct21 : Value}
    (a21 : PySem.W.nsIn K mainGlobals "_law_parts" = some (some (.ref f21))) (l21 : K.lookup f21 = some ⟨oc21, od21, .func (PySem.W.fnOf "_law_parts" "_law_parts" (defArgs sParts) (defBody sParts) (defScope sParts) .none kV21 dc21 pm21 an21 cd21 ct21), sl21⟩) (c21 : PySem.W.codeIn K cd21 "_law_parts" = true) (k21 : PySem.W.keepIn K (.ref f21) = true)
    {f22 : Addr} {od22 an22 : Option Addr} {sl22 : Array (Option Value)} {oc22 kV22 dc22 pm22 cd22 ct22 : Value}
    (a22 : PySem.W.nsIn K mainGlobals "_law_products" = some (some (.ref f22))) (l22 : K.lookup f22 = some ⟨oc22, od22, .func (PySem.W.fnOf "_law_products" "_law_products" (defArgs sProducts) (defBody sProducts) (defScope sProducts) .none kV22 dc22 pm22 an22 cd22 ct22), sl22⟩) (c22 : PySem.W.codeIn K cd22 "_law_products" = true) (k22 : PySem.W.keepIn K (.ref f22) = true)
    {f23 : Addr} {od23 an23 : Option Addr} {sl23 : Array (Option Value)} {oc23 kV23 dc23 pm23 cd23 ct23 : Value}
    (a23 : PySem.W.nsIn K mainGlobals "law" = some (some (.ref f23))) (l23 : K.lookup f23 = some ⟨oc23, od23, .func (PySem.W.fnOf "law" "law" (defArgs sLaw) (defBody sLaw) (defScope sLaw) .none kV23 dc23 pm23 an23 cd23 ct23), sl23⟩) (c23 : PySem.W.codeIn K cd23 "law" = true) (k23 : PySem.W.keepIn K (.ref f23) = true)
    (z0 : PySem.W.nsIn K mainGlobals "isinstance" = some none)
    (z1 : PySem.W.nsIn K mainGlobals "int" = some none)
    (z2 : PySem.W.nsIn K mainGlobals "bool" = some none)
    (z3 : PySem.W.nsIn K mainGlobals "len" = some none)
    (z4 : PySem.W.nsIn K mainGlobals "tuple" = some none)
    (z5 : PySem.W.nsIn K mainGlobals "list" = some none)
    (z6 : PySem.W.nsIn K mainGlobals "range" = some none)
    (z7 : PySem.W.nsIn K mainGlobals "sorted" = some none)
    (z8 : PySem.W.nsIn K mainGlobals "str" = some none)
    (z9 : PySem.W.nsIn K mainGlobals "all" = some none)
    (z10 : PySem.W.nsIn K mainGlobals "zip" = some none)
    (z11 : PySem.W.nsIn K mainGlobals "sum" = some none)
    (z12 : PySem.W.nsIn K mainGlobals "reversed" = some none)
    {ti0 : Tok} (y0 : PySem.W.nsIn K mainGlobals "FIGURES" = some (some (.str "0123456789" ti0)))
    {ti1 : Tok} (y1 : PySem.W.nsIn K mainGlobals "MOST_FIGURES" = some (some (.int 60 ti1)))
    {ti2 : Tok} (y2 : PySem.W.nsIn K mainGlobals "MOST_POWER" = some (some (.int 60 ti2)))
    {ti3 : Tok} (y3 : PySem.W.nsIn K mainGlobals "MOST_TERMS" = some (some (.int 100 ti3)))
    {oa ob : Addr} {ood ood2 : Option Addr} {onn onn2 : Nat} {oos oos2 : Array (Option Value)} {ot0 ot1 ot2 : Tok}
    (oo : PySem.W.nsIn K mainGlobals "ONE" = some (some (.ref oa))) (ol : K.lookup oa = some ⟨.type "tuple", ood, .seq #[.ref ob] onn, oos⟩) (om : K.lookup ob = some ⟨.type "tuple", ood2, .seq #[.int 0 ot0, .int 0 ot1, .int 1 ot2] onn2, oos2⟩)
    : ∃ fd : FuncData, (∀ (s : Shared) (v : Value), BindsTo s fd ⟨[v], []⟩ [("_law_script", v)]) /\ ∀ base : Heap, K.In base -> base.Ns mainGlobals mg -> FnOk l.prog w K mg base CX0 5 fa fd ["_law_script"] (spLaw K) := by
  have e := hfa.symm.trans (PySem.W.mg_of X G a23)
  cases e
  have S0 : Src K mg "gathered" sGath ["terms"] := src_mk X G a0 l0 c0 k0 fun _ _ _ _ _ _ us hl => match us, hl with | [_], _ => rfl
  have S1 : Src K mg "sum_of" sSumOf ["one", "other"] := src_mk X G a1 l1 c1 k1 fun _ _ _ _ _ _ us hl => match us, hl with | [_, _], _ => rfl
  have S2 : Src K mg "product_of" sProd ["one", "other"] := src_mk X G a2 l2 c2 k2 fun _ _ _ _ _ _ us hl => match us, hl with | [_, _], _ => rfl
  have S3 : Src K mg "to_power" sToPow ["poly", "k"] := src_mk X G a3 l3 c3 k3 fun _ _ _ _ _ _ us hl => match us, hl with | [_, _], _ => rfl
  have S4 : Src K mg "exchanged" sExch ["poly"] := src_mk X G a4 l4 c4 k4 fun _ _ _ _ _ _ us hl => match us, hl with | [_], _ => rfl
  have S5 : Src K mg "worth_at" sWorthAt ["poly", "x", "y"] := src_mk X G a5 l5 c5 k5 fun _ _ _ _ _ _ us hl => match us, hl with | [_, _, _], _ => rfl
  have S6 : Src K mg "number_to_power" sPow ["number", "k"] := src_mk X G a6 l6 c6 k6 fun _ _ _ _ _ _ us hl => match us, hl with | [_, _], _ => rfl
  have S7 : Src K mg "poly_text" sPText ["poly"] := src_mk X G a7 l7 c7 k7 fun _ _ _ _ _ _ us hl => match us, hl with | [_], _ => rfl
  have S8 : Src K mg "power_text" sPwText ["unknown", "power"] := src_mk X G a8 l8 c8 k8 fun _ _ _ _ _ _ us hl => match us, hl with | [_, _], _ => rfl
  have S9 : Src K mg "read_poly" sRPoly ["text"] := src_mk X G a9 l9 c9 k9 fun _ _ _ _ _ _ us hl => match us, hl with | [_], _ => rfl
  have S10 : Src K mg "read_term" sRTerm ["word"] := src_mk X G a10 l10 c10 k10 fun _ _ _ _ _ _ us hl => match us, hl with | [_], _ => rfl
  have S11 : Src K mg "read_times" sRTimes ["word"] := src_mk X G a11 l11 c11 k11 fun _ _ _ _ _ _ us hl => match us, hl with | [_], _ => rfl
  have S12 : Src K mg "read_power" sRPower ["word"] := src_mk X G a12 l12 c12 k12 fun _ _ _ _ _ _ us hl => match us, hl with | [_], _ => rfl
  have S13 : Src K mg "read_above_nought" sRAbove ["word"] := src_mk X G a13 l13 c13 k13 fun _ _ _ _ _ _ us hl => match us, hl with | [_], _ => rfl
  have S14 : Src K mg "_law_at" sAt ["_law_script", "_law_k"] := src_mk X G a14 l14 c14 k14 fun _ _ _ _ _ _ us hl => match us, hl with | [_, _], _ => rfl
  have S15 : Src K mg "_law_digit" sDigit ["_law_pot", "_law_many"] := src_mk X G a15 l15 c15 k15 fun _ _ _ _ _ _ us hl => match us, hl with | [_, _], _ => rfl
  have S16 : Src K mg "_law_any_term" sAny ["_law_pot"] := src_mk X G a16 l16 c16 k16 fun _ _ _ _ _ _ us hl => match us, hl with | [_], _ => rfl
  have S17 : Src K mg "_law_term" sTerm ["_law_cell"] := src_mk X G a17 l17 c17 k17 fun _ _ _ _ _ _ us hl => match us, hl with | [_], _ => rfl
  have S18 : Src K mg "_law_three" sThree ["_law_script"] := src_mk X G a18 l18 c18 k18 fun _ _ _ _ _ _ us hl => match us, hl with | [_], _ => rfl
  have S19 : Src K mg "_law_turned" sTurned ["_law_terms", "_law_cell"] := src_mk X G a19 l19 c19 k19 fun _ _ _ _ _ _ us hl => match us, hl with | [_, _], _ => rfl
  have S20 : Src K mg "_law_tiny" sTiny ["_law_terms"] := src_mk X G a20 l20 c20 k20 fun _ _ _ _ _ _ us hl => match us, hl with | [_], _ => rfl
  have S21 : Src K mg "_law_parts" sParts ["_law_one", "_law_other"] := src_mk X G a21 l21 c21 k21 fun _ _ _ _ _ _ us hl => match us, hl with | [_, _], _ => rfl
  have S22 : Src K mg "_law_products" sProducts ["_law_p", "_law_q", "_law_r"] := src_mk X G a22 l22 c22 k22 fun _ _ _ _ _ _ us hl => match us, hl with | [_, _, _], _ => rfl
  have T : TxP mg := ⟨PySem.W.mg_none_of X G z0, PySem.W.mg_none_of X G z1, PySem.W.mg_none_of X G z2, PySem.W.mg_none_of X G z3, PySem.W.mg_none_of X G z4, PySem.W.mg_none_of X G z5, PySem.W.mg_none_of X G z6, PySem.W.mg_none_of X G z7⟩
  have T2 : Tx26 mg := ⟨PySem.W.mg_none_of X G z8, PySem.W.mg_none_of X G z9, PySem.W.mg_none_of X G z10, ⟨_, PySem.W.mg_of X G y0⟩, ⟨_, PySem.W.mg_of X G y1⟩, ⟨_, PySem.W.mg_of X G y2⟩, ⟨_, PySem.W.mg_of X G y3⟩⟩
  have hk : ∀ H, PolyK K H (.ref oa) [(0, 0, 1)] := fun H => ⟨oa, [.ref ob], rfl, .inr ⟨_, _, _, ol, rfl, rfl, by show 1 <= sizeLine; decide, .cons rfl .nil⟩, .cons ⟨ob, rfl, .inr ⟨_, _, _, om, rfl, rfl, by show 3 <= sizeLine; decide, .cons ⟨_, rfl⟩ (.cons ⟨_, rfl⟩ (.cons ⟨_, rfl⟩ .nil))⟩⟩ .nil⟩
  refine ⟨PySem.W.fnOf "law" "law" (defArgs sLaw) (defBody sLaw) (defScope sLaw) .none kV23 dc23 pm23 an23 cd23 ct23, fun s v => .of_eq rfl, fun base _ _ => ?_⟩
  have D0 : Def l.prog w K mg base 1 _ _ _ := d_gath T S0
  have D1 : Def l.prog w K mg base 2 _ _ _ := d_sumof S1 D0
  have D2 : Def l.prog w K mg base 2 _ _ _ := d_prod S2 D0
  have D3 : Def l.prog w K mg base 3 _ _ _ := d_topow T S3 (PySem.W.mg_of X G oo) hk D2
  have D4 : Def l.prog w K mg base 2 _ _ _ := d_exch S4 D0
  have D6 : Def l.prog w K mg base 1 _ _ _ := d_npow T S6
  have D5 : Def l.prog w K mg base 2 _ _ _ := d_worthat T (PySem.W.mg_none_of X G z11) S5 D6
  have D8 : Def l.prog w K mg base 1 _ _ _ := d_pw26 S8
  have D7 : Def l.prog w K mg base 2 _ _ _ := d_ptext S7 D8
  have D13 : Def l.prog w K mg base 1 _ _ _ := d_above T T2 S13
  have D11 : Def l.prog w K mg base 2 _ _ _ := d_times S11 D13
  have D12 : Def l.prog w K mg base 2 _ _ _ := d_rpow T2 S12 D13
  have D10 : Def l.prog w K mg base 3 _ _ _ := d_rterm T S10 D11 D12
  have D9 : Def l.prog w K mg base 4 _ _ _ := d_rpoly T T2 S9 D10
  have D14 : Def l.prog w K mg base 1 _ _ _ := d_at T S14
  have D15 : Def l.prog w K mg base 1 _ _ _ := d_digit S15
  have D16 : Def l.prog w K mg base 2 _ _ _ := d_any S16 D15
  have D17 : Def l.prog w K mg base 3 _ _ _ := d_term S17 D16
  have D18 : Def l.prog w K mg base 4 _ _ _ := d_three T S18 D17
  have D19 : Def l.prog w K mg base 1 _ _ _ := d_turned T (PySem.W.mg_none_of X G z12) S19
  have D20 : Def l.prog w K mg base 2 _ _ _ := d_tiny S20 D0
  have D21 : Def l.prog w K mg base 3 _ _ _ := d_parts S21 D5
  have D22 : Def l.prog w K mg base 4 _ _ _ := d_products S22 D1 D2 D4 D3
  exact ok_law (fun_mk (st := sLaw) l23 c23 k23) T (PySem.W.mg_none_of X G z12) D14 D18 D0 D1 D4 D19 D20 D21 D22 D7 D9
theorem walk {l : PySem.W.OpenLaw} {q : Program} {loose : List Str} {XP : (Str -> Option Value) -> Heap -> Prop} {YP : World -> Heap -> Prop} {d : DefRec} {K : Params -> PySem.W.Frag} (hn : l.most = some 63) (hdf : d.params.defaults = [])
    (hY : ∀ (w : World) (h : Heap), YP w h -> (K w.params).In h)
    (F : ∀ (w : World) (mg : Str -> Option Value) (fa : Addr) (h : Heap), (K w.params).In h -> h.Ns mainGlobals mg -> mg d.name = some (.ref fa) ->
      ∃ fd : FuncData, (∀ (s : Shared) (u : Value), BindsTo s fd ⟨[u], []⟩ [("_law_script", u)]) /\ ∀ base : Heap, (K w.params).In base -> base.Ns mainGlobals mg -> FnOk l.prog w (K w.params) mg base CX0 5 fa fd ["_law_script"] (spLaw (K w.params))) :
    PySem.W.WalkO q loose XP YP l.row.toRowW d [] (fun f vs => PySem.call f vs) :=
  L2.walk_of (n := 63) (k := 5) (x := "_law_script") (CX := fun _ => CX0) (sp := fun w => spLaw (K w.params)) hn (by decide) hdf ⟨rfl, by decide, by decide⟩ hY F (fun _ _ a ns hl _ hS => ⟨a, ns, rfl, hS, hl, fun _ => rfl⟩) fun _ _ _ _ _ z => z
end My
open PySem PySem.W PyProof.Rows
set_option maxRecDepth 100000 in
set_option maxHeartbeats 0 in
theorem PySem.Challenge.cw_manycounts_k28_whole_one_tuple_holds : PySem.Challenge.rw_manycounts_k28_whole_one_tuple.Holds := by
  w_on; o_law; k_head; (case hw => w_witness2)
  k_fill
  refine My.walk (l := PySem.Challenge.rw_manycounts_k28_whole_one_tuple) rfl rfl (fun w h Y => PySem.W.kIn_of Y) ?F
  case F =>
    intro w mg fa h KX G hmg
    refine' My.all_mk KX G hmg ?a0 ?l0 ?c0 ?k0 ?a1 ?l1 ?c1 ?k1 ?a2 ?l2 ?c2 ?k2 ?a3 ?l3 ?c3 ?k3 ?a4 ?l4 ?c4 ?k4 ?a5 ?l5 ?c5 ?k5 ?a6 ?l6 ?c6 ?k6 ?a7 ?l7 ?c7 ?k7 ?a8 ?l8 ?c8 ?k8 ?a9 ?l9 ?c9 ?k9 ?a10 ?l10 ?c10 ?k10 ?a11 ?l11 ?c11 ?k11 ?a12 ?l12 ?c12 ?k12 ?a13 ?l13 ?c13 ?k13 ?a14 ?l14 ?c14 ?k14 ?a15 ?l15 ?c15 ?k15 ?a16 ?l16 ?c16 ?k16 ?a17 ?l17 ?c17 ?k17 ?a18 ?l18 ?c18 ?k18 ?a19 ?l19 ?c19 ?k19 ?a20 ?l20 ?c20 ?k20 ?a21 ?l21 ?c21 ?k21 ?a22 ?l22 ?c22 ?k22 ?a23 ?l23 ?c23 ?k23 ?z0 ?z1 ?z2 ?z3 ?z4 ?z5 ?z6 ?z7 ?z8 ?z9 ?z10 ?z11 ?z12 ?y0 ?y1 ?y2 ?y3 ?oo ?ol ?om
    (case a0 => k_is); (case l0 => k_is); (case c0 => k_is); (case k0 => k_is)
    (case a1 => k_is); (case l1 => k_is); (case c1 => k_is); (case k1 => k_is)
    (case a2 => k_is); (case l2 => k_is); (case c2 => k_is); (case k2 => k_is)
    (case a3 => k_is); (case l3 => k_is); (case c3 => k_is); (case k3 => k_is)
    (case a4 => k_is); (case l4 => k_is); (case c4 => k_is); (case k4 => k_is)
    (case a5 => k_is); (case l5 => k_is); (case c5 => k_is); (case k5 => k_is)
    (case a6 => k_is); (case l6 => k_is); (case c6 => k_is); (case k6 => k_is)
    (case a7 => k_is); (case l7 => k_is); (case c7 => k_is); (case k7 => k_is)
    (case a8 => k_is); (case l8 => k_is); (case c8 => k_is); (case k8 => k_is)
    (case a9 => k_is); (case l9 => k_is); (case c9 => k_is); (case k9 => k_is)
    (case a10 => k_is); (case l10 => k_is); (case c10 => k_is); (case k10 => k_is)
    (case a11 => k_is); (case l11 => k_is); (case c11 => k_is); (case k11 => k_is)
    (case a12 => k_is); (case l12 => k_is); (case c12 => k_is); (case k12 => k_is)
    (case a13 => k_is); (case l13 => k_is); (case c13 => k_is); (case k13 => k_is)
    (case a14 => k_is); (case l14 => k_is); (case c14 => k_is); (case k14 => k_is)
    (case a15 => k_is); (case l15 => k_is); (case c15 => k_is); (case k15 => k_is)
    (case a16 => k_is); (case l16 => k_is); (case c16 => k_is); (case k16 => k_is)
    (case a17 => k_is); (case l17 => k_is); (case c17 => k_is); (case k17 => k_is)
    (case a18 => k_is); (case l18 => k_is); (case c18 => k_is); (case k18 => k_is)
    (case a19 => k_is); (case l19 => k_is); (case c19 => k_is); (case k19 => k_is)
    (case a20 => k_is); (case l20 => k_is); (case c20 => k_is); (case k20 => k_is)
    (case a21 => k_is); (case l21 => k_is); (case c21 => k_is); (case k21 => k_is)
    (case a22 => k_is); (case l22 => k_is); (case c22 => k_is); (case k22 => k_is)
    (case a23 => k_is); (case l23 => k_is); (case c23 => k_is); (case k23 => k_is)
    (case z0 => k_is); (case z1 => k_is); (case z2 => k_is); (case z3 => k_is)
    (case z4 => k_is); (case z5 => k_is); (case z6 => k_is); (case z7 => k_is)
    (case z8 => k_is); (case z9 => k_is); (case z10 => k_is); (case z11 => k_is)
    (case z12 => k_is); (case y0 => k_is); (case y1 => k_is); (case y2 => k_is)
    (case y3 => k_is)
    (case oo => k_is)
    (case ol => k_is)
    (case om => k_is)
