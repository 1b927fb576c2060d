import PyProof.Rows.All
import Wide.All
import OpenK.AllK
import Wide.FinOn
import Lean
import PyProof.EqAt
import PyProof.EqKinds
import PyProof.TupleCall
import KE.KIsAll
import PyProof.DictItems
import KE.KPairComp
import KE.KSortTup
import KE.IntBitsLaws
import KE.KRevIter
import PySem.Challenge.RW_manycounts_k27_no_texts_of_polynomials
set_option Elab.async false
set_option linter.all false
set_option maxRecDepth 100000
set_option maxHeartbeats 4000000
namespace L2
open PySem PySem.Spec PyProof.Rows
abbrev Key := Sum Int Str
def keyIs : Key -> Value -> Bool
  | .inl k, v => Value.isInt k v
  | .inr x, v => Value.isStrOf x v
def keyH (w : World) : Key -> Int
  | .inl k => hashInt k
  | .inr x => hashStr w x
theorem keyIs_shape : ∀ {k : Key} {v : Value}, keyIs k v = true -> (∃ i t, k = Sum.inl i /\ v = Value.int i t) \/ (∃ x t, k = Sum.inr x /\ v = Value.str x t)
  | .inl i, v, h => by
    obtain ⟨t, e⟩ := Value.isInt_shape (k := i) (v := v) h
    exact .inl ⟨i, t, rfl, e⟩
  | .inr x, v, h => by
    obtain ⟨t, e⟩ := Value.isStrOf_shape (x := x) (v := v) h
    exact .inr ⟨x, t, rfl, e⟩
theorem keyIs_int (i : Int) (t : Tok) : keyIs (.inl i) (.int i t) = true := by simp [keyIs, Value.isInt]
theorem keyIs_str (x : Str) (t : Tok) : keyIs (.inr x) (.str x t) = true := by simp [keyIs, Value.isStrOf]
theorem key_ll (a b : Int) : decide ((Sum.inl a : Key) = Sum.inl b) = (a == b) := by
  by_cases e : a = b
  · subst e; simp
  · have h : ¬ (Sum.inl a : Key) = Sum.inl b := fun q => e (Sum.inl.inj q)
    rw [decide_eq_false h]
    exact (beq_eq_false_iff_ne.mpr e).symm
theorem key_rr (a b : Str) : decide ((Sum.inr a : Key) = Sum.inr b) = decide (a = b) := by
  by_cases e : a = b
  · subst e; simp
  · have h : ¬ (Sum.inr a : Key) = Sum.inr b := fun q => e (Sum.inr.inj q)
    rw [decide_eq_false h, decide_eq_false e]
theorem key_lr (a : Int) (b : Str) : decide ((Sum.inl a : Key) = Sum.inr b) = false := decide_eq_false (fun q => nomatch q)
theorem key_rl (a : Str) (b : Int) : decide ((Sum.inr a : Key) = Sum.inl b) = false := decide_eq_false (fun q => nomatch q)
def mixKind (prog : Program) (w : World) : PySem.KeyKind prog w Key where
  is := keyIs
  hash := keyH w
  inj := fun v a b ha hb => by
    rcases keyIs_shape ha with ⟨i, t, rfl, rfl⟩ | ⟨x, t, rfl, rfl⟩
    · rcases keyIs_shape hb with ⟨j, u, rfl, e⟩ | ⟨y, u, rfl, e⟩
      · injection e with e1 _; rw [e1]
      · exact nomatch e
    · rcases keyIs_shape hb with ⟨j, u, rfl, e⟩ | ⟨y, u, rfl, e⟩
      · exact nomatch e
      · injection e with e1 _; rw [e1]
  byValue := fun k v h => by
    rcases keyIs_shape h with ⟨i, t, rfl, rfl⟩ | ⟨x, t, rfl, rfl⟩ <;> rfl
  pyHash := fun hv h => by
    rcases keyIs_shape hv with ⟨i, t, rfl, rfl⟩ | ⟨x, t, rfl, rfl⟩
    · exact wpAny_pyHash_int h
    · exact wpAny_pyHash_str h
  eqBool := fun hu hv h => by
    rcases keyIs_shape hu with ⟨i, t, rfl, rfl⟩ | ⟨x, t, rfl, rfl⟩
    · rcases keyIs_shape hv with ⟨j, u, rfl, rfl⟩ | ⟨y, u, rfl, rfl⟩
      · rw [key_ll] at h; exact wpAny_eqBool_int h
      · rw [key_lr] at h; exact SeqAt.EqAt.int_str i t y u _ _ _ _ h
    · rcases keyIs_shape hv with ⟨j, u, rfl, rfl⟩ | ⟨y, u, rfl, rfl⟩
      · rw [key_rl] at h; exact SeqAt.EqAt.str_int x t j u _ _ _ _ h
      · rw [key_rr] at h; exact wpAny_eqBool_str h
  «strs» := fun k x t v h => by
    rcases keyIs_shape h with ⟨i, u, rfl, e⟩ | ⟨y, u, rfl, e⟩
    · exact nomatch e
    · injection e with e1 _
      subst e1
      cases v <;> rfl
theorem mixKind_int (prog : Program) (w : World) (i : Int) (t : Tok) : (mixKind prog w).is (.inl i) (.int i t) = true := keyIs_int i t
theorem mixKind_str (prog : Program) (w : World) (x : Str) (t : Tok) : (mixKind prog w).is (.inr x) (.str x t) = true := keyIs_str x t
inductive V where
  | non | bl (b : Bool) | int (i : Int) | str (x : Str) | byt (b : Array UInt8) | flt (b : UInt64) | ref (a : Addr) | ty (n : String)
  deriving DecidableEq
def RelV : V -> Value -> Prop
  | .non, u => u = Value.none
  | .bl b, u => u = Value.bool b
  | .int i, u => ∃ t, u = Value.int i t
  | .str x, u => ∃ t, u = Value.str x t
  | .byt b, u => ∃ t, u = Value.bytes b t
  | .flt b, u => ∃ t, u = Value.float b t
  | .ref a, u => u = Value.ref a
  | .ty n, u => u = Value.type n
abbrev Vals : List V -> List Value -> Prop := Paired RelV
theorem Vals.length {xs : List V} {us : List Value} (r : Vals xs us) : xs.length = us.length := Paired.length r
theorem Vals.get : ∀ {xs : List V} {us : List Value} {i : Nat} {x : V}, Vals xs us -> xs[i]? = some x -> ∃ u, us[i]? = some u /\ RelV x u
  | _, _, _, _, .nil, e => by simp at e
  | _, _, 0, _, .cons r _, e => by simp at e; subst e; exact ⟨_, rfl, r⟩
  | _, _, i + 1, x, .cons _ t, e => by
    obtain ⟨u, h1, h2⟩ := Vals.get (i := i) (x := x) t (by simpa using e)
    exact ⟨u, by simpa using h1, h2⟩
theorem Vals.set {x : V} {u : Value} (r : RelV x u) : ∀ {xs : List V} {us : List Value} (i : Nat), Vals xs us -> Vals (xs.set i x) (us.set i u)
  | _, _, _, .nil => .nil
  | _, _, 0, .cons _ t => .cons r t
  | _, _, i + 1, .cons q t => .cons q (Vals.set r i t)
theorem Vals.append : ∀ {xs ys : List V} {us ws : List Value}, Vals xs us -> Vals ys ws -> Vals (xs ++ ys) (us ++ ws)
  | _, _, _, _, .nil, s => s
  | _, _, _, _, .cons r t, s => .cons r (Vals.append t s)
theorem Vals.take : ∀ {xs : List V} {us : List Value} (n : Nat), Vals xs us -> Vals (xs.take n) (us.take n)
  | _, _, 0, _ => .nil
  | _, _, _ + 1, .nil => .nil
  | _, _, n + 1, .cons r t => .cons r (Vals.take n t)
theorem Vals.drop : ∀ {xs : List V} {us : List Value} (n : Nat), Vals xs us -> Vals (xs.drop n) (us.drop n)
  | _, _, 0, r => r
  | _, _, _ + 1, .nil => .nil
  | _, _, n + 1, .cons _ t => Vals.drop n t
def RelO : Option V -> Option Value -> Prop
  | some v, some u => RelV v u
  | none, none => True
  | _, _ => False
def KV {κ : Type} : List (κ × V) -> List (κ × Value) -> Prop := Paired fun (p : κ × V) (q : κ × Value) => p.1 = q.1 /\ RelV p.2 q.2
def kV : Key -> V
  | .inl i => .int i
  | .inr x => .str x
inductive HO where
    | lst (xs : List V)
    | tup (xs : List V)
    | dK (kvs : List (Key × V)) | dT (kvs : List (List Key × V))
    | set (S : Int -> Bool) (n : Nat)
    | ins (C dx : Addr) (fs : List (Str × V))
    | own (x : Addr)
    | xd (fs : List (Str × V))
    | met (f x : Addr)
    | rng (lo hi : Int)
    | frz (o : Obj) (u : HO)
    | tbl (ps : Array Value)
    | ext (φ : Heap -> Prop)
abbrev Hp := Addr -> Option HO
def upd (H : Hp) (a : Addr) (o : HO) : Hp := fun b => if b = a then some o else H b
theorem upd_same {H : Hp} {a : Addr} {o : HO} : upd H a o a = some o := by unfold upd; rw [if_pos rfl]
theorem upd_ne {H : Hp} {a b : Addr} {o : HO} (h : b ≠ a) : upd H a o b = H b := by unfold upd; rw [if_neg h]
theorem ne_of {H : Hp} {a b : Addr} {o u : HO} (h : H a = some o) (h' : H b = some u) (d : o ≠ u) : a ≠ b := by
  intro e; subst e; rw [h] at h'; exact d (Option.some.inj h')
theorem ne_of_none {H : Hp} {a b : Addr} {o : HO} (h : H a = some o) (h' : H b = none) : a ≠ b := by
  intro e; subst e; rw [h] at h'; cases h'
section
variable (P : Program) (w : World)
def ObjOk (H : Hp) (h : Heap) (a : Addr) : HO -> Prop
  | .lst xs => xs.length <= sizeLine /\ ∃ (its : List Value) (n : Nat), Vals xs its /\ h.get? a = some { cls := .type "list", data := .seq its.toArray n }
  | .tup xs => xs.length <= sizeLine /\ ∃ its : List Value, Vals xs its /\ IsTup h a its.toArray
  | .dK kvs => kvs.length <= sizeLine /\ (a == sysModules) = false /\ ∃ vs, KV kvs vs /\ h.DictOf (mixKind P w) a vs
  | .dT kvs => kvs.length <= sizeLine /\ (a == sysModules) = false /\ ∃ xs : List (List Key × Addr × Value),
      Paired (fun (p : List Key × V) (q : List Key × Addr × Value) => p.1 = q.1 /\ H q.2.1 = some (.tup (p.1.map kV)) /\ RelV p.2 q.2.2) kvs xs /\
      ∃ o es ep, h.get? a = some o /\ o.ExactDict /\ o.data = .dict es ep /\ es.toList = xs.map (entryOfKey (tupleKind (mixKind P w))) /\ (xs.map (·.1)).Nodup
  | .set S n => h.SetOf (intKind P w) a S n
  | .ins C dx fs => H dx = some (.own a) /\ fs.length <= 1000 /\ dx ≠ a /\ h.get? a = some (PySem.W.instObj C dx) /\
      ∃ mA, h.Ns1 dx mA /\ (∀ f, RelO (fs.lookup f) (mA f)) /\ PySem.Within mA (fs.map (·.1))
  | .own _ => ∃ o, h.get? a = some o
  | .xd fs => ∃ mA, h.Ns1 a mA /\ ∀ f, RelO (fs.lookup f) (mA f)
  | .rng lo hi => ∃ t u v, h.get? a = some { cls := .type "range", data := .fields #[.int lo t, .int hi u, .int 1 v] }
  | .frz o u => h.get? a = some o /\ ObjOk H h a u
  | .tbl ps => h.get? a = some { cls := .none, data := .fields ps }
  | .met f x => h.get? a = some (PySem.W.methodObj (.ref f) (.ref x))
  | .ext φ => φ h /\ (∃ o, h.get? a = some o) /\ ∀ h1 h2 : Heap, φ h1 -> (∀ o, h1.get? a = some o -> h2.get? a = some o) -> φ h2
def HOk (H : Hp) (h : Heap) : Prop := ∀ a o, H a = some o -> ObjOk P w H h a o
end
section
variable {P : Program} {w : World} {H H' : Hp} {h h' : Heap} {a : Addr} {o : HO}
theorem ObjOk.lt (x : ObjOk P w H h a o) : a < h.objs.size := by
  cases o with
  | lst xs => obtain ⟨_, _, _, _, e⟩ := x; exact Heap.lt_size e
  | tup xs => obtain ⟨_, _, _, p⟩ := x; exact p.lt
  | dK kvs => obtain ⟨_, _, _, _, o, _, _, e, _⟩ := x; exact Heap.lt_size e
  | dT kvs => obtain ⟨_, _, _, _, o, _, _, e, _⟩ := x; exact Heap.lt_size e
  | set S n => obtain ⟨o, _, _, _, e, _⟩ := x; exact Heap.lt_size e
  | ins C dx fs => obtain ⟨_, _, _, e, _⟩ := x; exact Heap.lt_size e
  | own y => obtain ⟨_, e⟩ := x; exact Heap.lt_size e
  | xd fs => obtain ⟨_, ⟨_, _, _, e, _⟩, _⟩ := x; exact Heap.lt_size e
  | rng lo hi => obtain ⟨_, _, _, e⟩ := x; exact Heap.lt_size e
  | frz ob u => obtain ⟨e, _⟩ := x; exact Heap.lt_size e
  | tbl ps => exact Heap.lt_size (show h.get? a = some _ from x)
  | met f y => exact Heap.lt_size (show h.get? a = some _ from x)
  | ext φ => obtain ⟨_, ⟨_, e⟩, _⟩ := x; exact Heap.lt_size e
theorem Paired.mapP {α β : Type} {F G : α -> β -> Prop} : ∀ {l₁ : List α} {l₂ : List β}, Paired F l₁ l₂ -> (∀ a b, F a b -> G a b) -> Paired G l₁ l₂
  | _, _, .nil, _ => .nil
  | _, _, .cons r t, f => .cons (f _ _ r) (Paired.mapP t f)
theorem ObjOk.stay (x : ObjOk P w H h a o) (k : ∀ b u, (b = a \/ H b = some (.own a)) -> h.get? b = some u -> h'.get? b = some u)
    (ho : ∀ b, H b = some (.own a) -> H' b = some (.own a)) (ht : ∀ b xs, H b = some (.tup xs) -> H' b = some (.tup xs)) : ObjOk P w H' h' a o := by
  induction o with
  | lst xs => obtain ⟨z, its, n, r, e⟩ := x; exact ⟨z, its, n, r, k _ _ (.inl rfl) e⟩
  | tup xs => obtain ⟨z, its, r, ob, e, c⟩ := x; exact ⟨z, its, r, ob, k _ _ (.inl rfl) e, c⟩
  | dK kvs => obtain ⟨z, y, vs, r, ob, es, ep, e, c⟩ := x; exact ⟨z, y, vs, r, ob, es, ep, k _ _ (.inl rfl) e, c⟩
  | dT kvs =>
    obtain ⟨z, y, xs, r, ob, es, ep, e, c⟩ := x
    exact ⟨z, y, xs, Paired.mapP r fun p q z => ⟨z.1, ht _ _ z.2.1, z.2.2⟩, ob, es, ep, k _ _ (.inl rfl) e, c⟩
  | set S n => obtain ⟨ob, es, ep, t, e, c⟩ := x; exact ⟨ob, es, ep, t, k _ _ (.inl rfl) e, c⟩
  | ins C dx fs =>
    obtain ⟨d, z, ne, e, mA, ⟨od, es, ep, e2, c⟩, r⟩ := x
    exact ⟨ho _ d, z, ne, k _ _ (.inl rfl) e, mA, ⟨od, es, ep, k _ _ (.inr d) e2, c⟩, r⟩
  | own y => obtain ⟨ob, e⟩ := x; exact ⟨ob, k _ _ (.inl rfl) e⟩
  | xd fs => obtain ⟨mA, ⟨od, es, ep, e, c⟩, r⟩ := x; exact ⟨mA, ⟨od, es, ep, k _ _ (.inl rfl) e, c⟩, r⟩
  | rng lo hi => obtain ⟨t, u, v, e⟩ := x; exact ⟨t, u, v, k _ _ (.inl rfl) e⟩
  | frz ob u ih => obtain ⟨e, q⟩ := x; exact ⟨k _ _ (.inl rfl) e, ih q⟩
  | tbl ps =>
    have e : h.get? a = some { cls := .none, data := .fields ps } := x
    show h'.get? a = some { cls := .none, data := .fields ps }
    exact k a _ (.inl rfl) e
  | met f y =>
    have e : h.get? a = some (PySem.W.methodObj (.ref f) (.ref y)) := x
    show h'.get? a = some (PySem.W.methodObj (.ref f) (.ref y))
    exact k a _ (.inl rfl) e
  | ext φ => obtain ⟨p, ⟨o, e⟩, st⟩ := x; exact ⟨st _ _ p fun o q => k _ _ (.inl rfl) q, ⟨o, k _ _ (.inl rfl) e⟩, st⟩
theorem HOk.lt (x : HOk P w H h) (e : H a = some o) : a < h.objs.size := (x a o e).lt
theorem HOk.fresh (x : HOk P w H h) (e : h.objs.size <= a) : H a = none := by
  cases q : H a with
  | none => rfl
  | some u => exact absurd (Nat.lt_of_lt_of_le (x.lt q) e) (Nat.lt_irrefl _)
theorem HOk.kept (x : HOk P w H h) (k : ∀ b u, h.get? b = some u -> h'.get? b = some u) : HOk P w H h' := fun a o e =>
  (x a o e).stay (fun b u _ q => k b u q) (fun _ q => q) fun _ _ q => q
theorem HOk.laid (x : HOk P w H h) (k : ∀ b u, h.get? b = some u -> h'.get? b = some u) (hp : h.objs.size <= a) (new : ObjOk P w (upd H a o) h' a o) : HOk P w (upd H a o) h' := fun b u e => by
  have hn := x.fresh hp
  by_cases hb : b = a
  · subst hb; rw [upd_same] at e; cases e; exact new
  · rw [upd_ne hb] at e
    exact (x b u e).stay (fun c v _ q => k c v q) (fun c q => by rw [upd_ne (ne_of_none q hn)]; exact q) fun c xs q => by rw [upd_ne (ne_of_none q hn)]; exact q
end
def Rd (H : Hp) (a : Addr) (u : HO) : Prop := H a = some u \/ ∃ o, H a = some (.frz o u)
theorem Rd.ok {P : Program} {w : World} {H : Hp} {h : Heap} {a : Addr} {u : HO} (r : Rd H a u) (x : HOk P w H h) : ObjOk P w H h a u := by
  rcases r with r | ⟨o, r⟩
  · exact x a u r
  · obtain ⟨_, q⟩ := x a _ r
    exact q
def Mut : Option HO -> Prop
  | some (.lst _) => True
  | some (.dK _) => True
  | some (.dT _) => True
  | some (.set _ _) => True
  | some (.ins _ _ _) => True
  | some (.ext _) => True
  | _ => False
section
variable {P : Program} {w : World} {H : Hp} {h h' : Heap} {x e : Addr} {o' : HO}
theorem HOk.write (ok : HOk P w H h) (mu : Mut (H x)) (he : e = x \/ H e = some (.own x)) (k : ∀ b u, b ≠ e -> h.get? b = some u -> h'.get? b = some u) (heo : ∃ u, h'.get? e = some u)
    (new : ObjOk P w (upd H x o') h' x o') : HOk P w (upd H x o') h' := fun b u q => by
  have nown : ∀ c y, H c = some (.own y) -> c ≠ x := fun c y r z => by subst z; rw [r] at mu; exact mu
  have ntup : ∀ c xs, H c = some (.tup xs) -> c ≠ x := fun c xs r z => by subst z; rw [r] at mu; exact mu
  by_cases hb : b = x
  · subst hb; rw [upd_same] at q; cases q; exact new
  · rw [upd_ne hb] at q
    by_cases hbe : b = e
    · have q' : H b = some (.own x) := by
        rcases he with z | z
        · exact absurd (hbe.trans z) hb
        · rw [hbe]; exact z
      rw [q] at q'; cases q'
      obtain ⟨v, hv⟩ := heo
      exact ⟨v, by rw [hbe]; exact hv⟩
    · refine (ok b u q).stay (fun c v hc r => k c v ?_ r) (fun c r => by rw [upd_ne (nown c b r)]; exact r) fun c xs r => by rw [upd_ne (ntup c xs r)]; exact r
      rcases hc with rfl | hc
      · exact hbe
      · rintro rfl
        rcases he with z | z
        · exact nown c b hc z
        · rw [hc] at z; cases z; exact hb rfl
end
structure Un (fs ex : List Addr) (H H' : Hp) (h h' : Heap) : Prop where
  keep : ∀ b o, h.get? b = some o -> H b = none -> b ∉ fs -> b ∉ ex -> h'.get? b = some o
  slot : ∀ b o, h.get? b = some o -> H b = none -> b ∈ fs -> b ∉ ex -> ∃ sl, h'.get? b = some { o with slots := sl }
  free : ∀ b o, h.get? b = some o -> H b = none -> b ∉ ex -> H' b = none
  there : ∀ b o, h.get? b = some o -> b ∉ ex -> ∃ o', h'.get? b = some o'
  tups : ∀ b xs, H b = some (.tup xs) -> H' b = some (.tup xs)
  frzs : ∀ b o u, H b = some (.frz o u) -> H' b = some (.frz o u)
  tbls : ∀ b ps, H b = some (.tbl ps) -> ∃ more, H' b = some (.tbl (ps ++ more))
section
variable {fs fs' ex ex' : List Addr} {H H1 H2 : Hp} {h h1 h2 h' : Heap} {a x e : Addr} {o : HO}
theorem Un.any (u : Un fs ex H H1 h h1) {b : Addr} {ob : Obj} (q : h.get? b = some ob) (n : H b = none) (hx : b ∉ ex) : ∃ sl, h1.get? b = some { ob with slots := sl } := by
  by_cases hb : b ∈ fs
  · exact u.slot b ob q n hb hx
  · exact ⟨ob.slots, u.keep b ob q n hb hx⟩
theorem Un.kept (k : ∀ b u, h.get? b = some u -> h'.get? b = some u) : Un fs ex H H h h' :=
  ⟨fun b ob q _ _ _ => k b ob q, fun b ob q _ _ _ => ⟨ob.slots, k b ob q⟩, fun _ _ _ n _ => n, fun b ob q _ => ⟨ob, k b ob q⟩, fun _ _ q => q, fun _ _ _ q => q, fun _ ps q => ⟨#[], by rw [q]; simp⟩⟩
theorem Un.refl : Un fs ex H H h h := Un.kept fun _ _ q => q
theorem Un.laid (k : ∀ b u, h.get? b = some u -> h'.get? b = some u) (hp : h.objs.size <= a) (hn : H a = none) : Un fs ex H (upd H a o) h h' where
  keep := fun b u q _ _ _ => k b u q
  slot := fun b u q _ _ _ => ⟨u.slots, k b u q⟩
  free := fun b u q n _ => by rw [upd_ne (Nat.ne_of_lt (Nat.lt_of_lt_of_le (Heap.lt_size q) hp))]; exact n
  there := fun b u q _ => ⟨u, k b u q⟩
  tups := fun b xs q => by rw [upd_ne (ne_of_none q hn)]; exact q
  frzs := fun b u xs q => by rw [upd_ne (ne_of_none q hn)]; exact q
  tbls := fun b ps q => ⟨#[], by rw [upd_ne (ne_of_none q hn), q]; simp⟩
theorem Un.write (mu : Mut (H x)) (he : e = x \/ H e = some (.own x)) (k : ∀ b u, b ≠ e -> h.get? b = some u -> h'.get? b = some u) (heo : ∃ u, h'.get? e = some u) : Un fs ex H (upd H x o) h h' := by
  have hx : ∀ b, H b = none -> b ≠ x := fun b n z => by subst z; rw [n] at mu; exact mu
  have hb : ∀ b, H b = none -> b ≠ e := fun b n z => by
    subst z
    rcases he with r | r
    · exact hx b n r
    · rw [n] at r; cases r
  have hm : ∀ b u, H b = some u -> ¬ Mut (some u) -> b ≠ x := fun b u q nm z => by subst z; rw [q] at mu; exact nm mu
  refine ⟨fun b u q n _ _ => k b u (hb b n) q, fun b u q n _ _ => ⟨u.slots, k b u (hb b n) q⟩, fun b u q n _ => by rw [upd_ne (hx b n)]; exact n, fun b u q _ => ?_,
    fun b xs q => by rw [upd_ne (hm b _ q fun z => z)]; exact q, fun b u xs q => by rw [upd_ne (hm b _ q fun z => z)]; exact q, fun b ps q => ⟨#[], by rw [upd_ne (hm b _ q fun z => z), q]; simp⟩⟩
  by_cases hbe : b = e
  · subst hbe; exact heo
  · exact ⟨u, k b u hbe q⟩
end
def trk (h : Heap) (H : Hp) : List Addr := (List.range h.objs.size).filter fun a => (H a).isSome
def hidT (h : Heap) (H : Hp) : Heap := PySem.W.hideAll h (trk h H)
theorem hidT_size (h : Heap) (H : Hp) : (hidT h H).objs.size = h.objs.size := PySem.W.hideAll_size _ _
theorem hidT_get {h : Heap} {H : Hp} {b : Addr} {o : Obj} (e : h.get? b = some o) (n : H b = none) : (hidT h H).get? b = some o :=
  PySem.W.hideAll_get _ e fun hm => by
    have q : (H b).isSome = true := (List.mem_filter.mp hm).2
    rw [n] at q; simp at q
theorem of_hidT {h : Heap} {H : Hp} {b : Addr} {o : Obj} (e : (hidT h H).get? b = some o) : h.get? b = some o /\ H b = none := by
  have e' : h.get? b = some o := PySem.W.of_hideAll (trk h H) e
  refine ⟨e', ?_⟩
  cases q : H b with
  | none => rfl
  | some x =>
    have hm : b ∈ trk h H := List.mem_filter.mpr ⟨List.mem_range.mpr (Heap.lt_size e'), by simp [q]⟩
    have z : (hidT h H).get? b = none := PySem.W.hideAll_none (trk h H) hm
    rw [z] at e; cases e
def allNews (g h : Heap) (L : Addr) : List (Addr × Obj) := (List.range h.objs.size).filterMap fun a => if a = L \/ (g.get? a).isSome = true then none else (h.get? a).map fun o => (a, o)
def rest (g h : Heap) (L d : Addr) : List (Addr × Obj) := (allNews g h L).filter fun p => decide (p.1 ≠ d)
structure Mod (K : PySem.W.Frag) (mg : Str -> Option Value) (base : Heap) : Prop where
  kin : K.In base
  glob : base.Ns mainGlobals mg
  blt : ∃ mb, base.Ns builtinsNs mb /\ ∀ x : Str, x ≠ "__name__" -> mb x = bootBuiltins x
  nolimit : base.NoLimit
structure Cx where
  prog : Program
  w : World
  K : PySem.W.Frag
  mg : Str -> Option Value
  base : Heap
  A : Around
  N : List Str
  s₀ : Shared
  H₀ : Hp
  env : Env
  outer : List Env
  stack : List Env
  ex : List Addr
  fn : Str -> Bool
  calm : Bool
  pn : List (Addr × Obj)
  xe : Value -> Shared -> Prop
def frs (l : List Env) : List Addr := l.filterMap (·.frame)
abbrev Cx.fs (X : Cx) : List Addr := frs X.outer
def Vis (sc : Scope) (x : Str) : Prop := sc.names.lookup x = some .local \/ sc.names.lookup x = some .cell \/ sc.names.lookup x = some .free
def Loc (sc : Scope) (x : Str) : Prop := sc.names.lookup x = some .local \/ sc.names.lookup x = some .cell
def Look (env : Env) (h : Heap) (m : Str -> Option Value) (x : Str) (u : Value) : Prop :=
  (env.kindOf x = some .local /\ m x = some u) \/ ((env.kindOf x = some .cell \/ env.kindOf x = some .free) /\ ∃ c, env.cells.lookup x = some c /\ h.IsCell c (some u))
structure Cx.Ok (X : Cx) : Prop where
  mod : Mod X.K X.mg X.base
  kind : X.env.scope.kind = .function
  glob : X.env.globals = mainGlobals
  blt : X.env.builtins = builtinsNs
  above : X.s₀.heap.objs.size <= X.env.locals
  inj : ∀ x y c, X.env.cells.lookup x = some c -> X.env.cells.lookup y = some c -> x = y
  has : ∀ x, (X.env.kindOf x = some .cell \/ X.env.kindOf x = some .free) -> ∃ c, X.env.cells.lookup x = some c
  cab : ∀ x c, X.fn x = true -> X.env.cells.lookup x = some c -> X.s₀.heap.objs.size <= c
  hd : X.calm = true -> X.A.handled = none
  frames : X.A.frames = some X.stack
  stk : X.stack = X.outer \/ (X.stack = X.env :: X.outer /\ X.env.frame = some X.env.locals)
  exf : ∀ b ∈ X.ex, b ≠ X.env.locals /\ ∀ x c, X.env.cells.lookup x = some c -> c ≠ b
  bs : ∀ b o, X.base.get? b = some o -> X.s₀.heap.get? b = some o /\ X.H₀ b = none
  bsz : X.base.objs.size <= X.s₀.heap.objs.size
  noex : ∀ b o, X.base.get? b = some o -> b ∉ X.ex
  exfs : ∀ b ∈ X.ex, b ∉ X.fs
  funs : X.s₀.heap.FunFrames X.base X.outer
  frf : ∀ b ∈ X.fs, X.H₀ b = none
structure Inv (X : Cx) (pins : List (Addr × Obj)) (σ : List (Option V)) (H : Hp) (s : Shared) : Prop where
  ok : X.Ok
  os : s.os = X.s₀.os
  bare : AllBare s.gens
  base : Un X.fs X.ex X.H₀ H X.s₀.heap s.heap
  loc : ∃ m, s.heap.Ns X.env.locals m /\ ∀ (i : Nat) (x : Str) (v : V), X.N[i]? = some x -> σ[i]? = some (some v) -> Vis X.env.scope x -> ∃ u, RelV v u /\ Look X.env s.heap m x u
  cell : ∀ x c, X.env.cells.lookup x = some c -> ∃ v, s.heap.IsCell c v
  free : H X.env.locals = none
  freeC : ∀ x c, X.env.cells.lookup x = some c -> H c = none
  pin : ∀ p ∈ X.pn ++ pins, s.heap.get? p.1 = some p.2 /\ H p.1 = none /\ p.1 ≠ X.env.locals /\ p.1 ∉ X.fs /\ ∀ v, p.2.data ≠ .cell v
  hok : HOk X.prog X.w H s.heap
  len : σ.length = X.N.length
section
variable {X : Cx} {pins : List (Addr × Obj)} {σ : List (Option V)} {H H' : Hp} {s : Shared} {h' : Heap}
theorem Cx.Ok.nofr (ok : X.Ok) {b : Addr} {o : Obj} (e : X.base.get? b = some o) : b ∉ X.fs := fun hb => by
  have := (ok.funs.mem hb).1
  rw [e] at this; cases this
theorem Inv.bs (I : Inv X pins σ H s) : ∀ b o, X.base.get? b = some o -> s.heap.get? b = some o /\ H b = none := fun b o e =>
  ⟨I.base.keep b o (I.ok.bs b o e).1 (I.ok.bs b o e).2 (I.ok.nofr e) (I.ok.noex b o e), I.base.free b o (I.ok.bs b o e).1 (I.ok.bs b o e).2 (I.ok.noex b o e)⟩
theorem Inv.bk (I : Inv X pins σ H s) : ∀ b o, X.base.get? b = some o -> s.heap.get? b = some o := fun b o e => (I.bs b o e).1
theorem Inv.mod (I : Inv X pins σ H s) : Mod X.K X.mg X.base := I.ok.mod
theorem Inv.kIn (I : Inv X pins σ H s) : X.K.In s.heap := I.ok.mod.kin.keeps I.bk
theorem Inv.lt (I : Inv X pins σ H s) : X.env.locals < s.heap.objs.size := let ⟨_, hn, _⟩ := I.loc; hn.lt
theorem Inv.sz (I : Inv X pins σ H s) : X.s₀.heap.objs.size <= s.heap.objs.size := Nat.le_trans I.ok.above (Nat.le_of_lt I.lt)
theorem Inv.nofs (I : Inv X pins σ H s) {a : Addr} (h : s.heap.objs.size <= a) : a ∉ X.fs := fun hb => by
  obtain ⟨_, o, ho, _⟩ := I.ok.funs.mem hb
  exact absurd (Nat.lt_of_lt_of_le (Heap.lt_size ho) (Nat.le_trans I.sz h)) (Nat.lt_irrefl _)
theorem Inv.cne (I : Inv X pins σ H s) : ∀ x c, X.env.cells.lookup x = some c -> c ≠ X.env.locals := fun x c e z => by
  obtain ⟨v, o, ho, hd⟩ := I.cell x c e
  obtain ⟨m, ⟨o', es, ep, ho', hd', _⟩, _⟩ := I.loc
  rw [z, ho'] at ho; cases ho; rw [hd'] at hd; cases hd
theorem Inv.funs (I : Inv X pins σ H s) : s.heap.FunFrames X.base X.outer := by
  have all : ∀ (l : List Env), (∀ b ∈ frs l, b ∈ X.fs) -> X.s₀.heap.FunFrames X.base l -> s.heap.FunFrames X.base l := by
    intro l
    induction l with
    | nil => intro _ _; trivial
    | cons env r ih =>
      intro hs hl
      obtain ⟨hk, ⟨L, o, hf, hn, ho, hd⟩, hr⟩ := hl
      have hL : L ∈ X.fs := hs L (by unfold frs; rw [List.filterMap_cons, hf]; exact List.mem_cons_self)
      obtain ⟨sl, e⟩ := I.base.slot L o ho (I.ok.frf L hL) hL fun z => I.ok.exfs L z hL
      exact ⟨hk, ⟨L, _, hf, hn, e, hd⟩, ih (fun b hb => hs b (by unfold frs; rw [List.filterMap_cons, hf]; exact List.mem_cons_of_mem _ hb)) hr⟩
  exact all X.outer (fun _ hb => hb) I.ok.funs
theorem Inv.stack (I : Inv X pins σ H s) : s.heap.FunFrames X.base X.stack := by
  rcases I.ok.stk with e | ⟨e, hf⟩
  · rw [e]; exact I.funs
  · rw [e]
    obtain ⟨m, hn, _⟩ := I.loc
    refine .cons (by rw [I.ok.kind]; decide) hf hn ?_ I.funs
    exact Heap.get?_none_of_le (Nat.le_trans I.ok.bsz I.ok.above)
theorem Inv.stkSub (I : Inv X pins σ H s) : ∀ b ∈ frs X.stack, b ∈ X.env.locals :: X.fs := fun b hb => by
  rcases I.ok.stk with e | ⟨e, hf⟩
  · rw [e] at hb; exact List.mem_cons_of_mem _ hb
  · rw [e] at hb
    unfold frs at hb
    rw [List.filterMap_cons, hf] at hb
    exact hb
theorem Inv.stkFree (I : Inv X pins σ H s) : ∀ b ∈ frs X.stack, H b = none := fun b hb => by
  rcases List.mem_cons.mp (I.stkSub b hb) with e | hb
  · rw [e]; exact I.free
  · obtain ⟨_, o, ho, _⟩ := I.ok.funs.mem hb
    exact I.base.free b o ho (I.ok.frf b hb) fun z => I.ok.exfs b z hb
theorem Inv.step {g' : Array GenState} {t' : Nat} {d' : Drawn} {ch : List Addr} (I : Inv X pins σ H s)
    (hch : ∀ b ∈ ch, (b ∈ X.ex \/ X.s₀.heap.objs.size <= b) /\ b ≠ X.env.locals /\ (∀ x c, X.env.cells.lookup x = some c -> c ≠ b) /\ ∀ p ∈ X.pn ++ pins, p.1 ≠ b)
    (keep : ∀ b o, b ≠ X.env.locals -> b ∉ X.fs -> b ∉ ch -> s.heap.get? b = some o -> H b = none -> h'.get? b = some o)
    (slot : ∀ b o, b ≠ X.env.locals -> b ∈ X.fs -> b ∉ ch -> s.heap.get? b = some o -> H b = none -> ∃ sl, h'.get? b = some { o with slots := sl }) (free : ∀ b o, b ∉ ch -> s.heap.get? b = some o -> H b = none -> H' b = none)
    (there : ∀ b o, b ∉ ch -> s.heap.get? b = some o -> ∃ o', h'.get? b = some o')
    (tups : ∀ b xs, H b = some (.tup xs) -> H' b = some (.tup xs)) (frzs : ∀ b o u, H b = some (.frz o u) -> H' b = some (.frz o u)) (tbls : ∀ b ps, H b = some (.tbl ps) -> ∃ more, H' b = some (.tbl (ps ++ more)))
    (ns : ∀ m, s.heap.Ns X.env.locals m -> h'.Ns X.env.locals m) (hok : HOk X.prog X.w H' h') (hg : AllBare g') :
    Inv X pins σ H' { s with heap := h', gens := g', drawn := d', toks := t' } := by
  have neL : ∀ b o, X.s₀.heap.get? b = some o -> b ≠ X.env.locals := fun b o e => Nat.ne_of_lt (Nat.lt_of_lt_of_le (Heap.lt_size e) I.ok.above)
  have neC : ∀ b o, X.s₀.heap.get? b = some o -> b ∉ X.ex -> b ∉ ch := fun b o e hx hb => by
    rcases (hch b hb).1 with z | z
    · exact hx z
    · exact absurd (Nat.lt_of_lt_of_le (Heap.lt_size e) z) (Nat.lt_irrefl _)
  have cellK : ∀ x c, X.env.cells.lookup x = some c -> ∀ v, s.heap.IsCell c v -> h'.IsCell c v := fun x c e v ⟨o, ho, hd⟩ => by
    have nch : c ∉ ch := fun z => (hch c z).2.2.1 x c e rfl
    by_cases hc : c ∈ X.fs
    · obtain ⟨sl, q⟩ := slot c o (I.cne x c e) hc nch ho (I.freeC x c e)
      exact ⟨_, q, hd⟩
    · exact ⟨o, keep c o (I.cne x c e) hc nch ho (I.freeC x c e), hd⟩
  refine ⟨I.ok, I.os, hg, ⟨fun b o e n hb hx => ?_, fun b o e n hb hx => ?_, fun b o e n hx => ?_, fun b o e hx => ?_, fun b xs e => tups b xs (I.base.tups b xs e), fun b o xs e => frzs b o xs (I.base.frzs b o xs e), fun b ps e => ?_⟩, ?_, fun x c e => ?_, ?_, fun x c e => ?_, fun p hp => ?_, hok, I.len⟩
  · exact keep b o (neL b o e) hb (neC b o e hx) (I.base.keep b o e n hb hx) (I.base.free b o e n hx)
  · obtain ⟨sl, e1⟩ := I.base.slot b o e n hb hx
    obtain ⟨sl', e2⟩ := slot b _ (neL b o e) hb (neC b o e hx) e1 (I.base.free b o e n hx)
    exact ⟨sl', e2⟩
  · obtain ⟨o', e1⟩ := I.base.there b o e hx
    exact free b o' (neC b o e hx) e1 (I.base.free b o e n hx)
  · obtain ⟨o', e1⟩ := I.base.there b o e hx
    exact there b o' (neC b o e hx) e1
  · obtain ⟨m1, e1⟩ := I.base.tbls b ps e
    obtain ⟨m2, e2⟩ := tbls b _ e1
    exact ⟨m1 ++ m2, by rw [e2, Array.append_assoc]⟩
  · obtain ⟨m, hn, hl⟩ := I.loc
    refine ⟨m, ns m hn, fun i x v e1 e2 e3 => ?_⟩
    obtain ⟨u, r, l⟩ := hl i x v e1 e2 e3
    refine ⟨u, r, ?_⟩
    rcases l with l | ⟨k, c, e, z⟩
    · exact .inl l
    · exact .inr ⟨k, c, e, cellK x c e _ z⟩
  · obtain ⟨v, z⟩ := I.cell x c e
    exact ⟨v, cellK x c e v z⟩
  · obtain ⟨m, ⟨o, _, _, ho, _⟩, _⟩ := I.loc
    exact free _ o (fun z => (hch _ z).2.1 rfl) ho I.free
  · obtain ⟨v, o, ho, hd⟩ := I.cell x c e
    exact free c o (fun z => (hch c z).2.2.1 x c e rfl) ho (I.freeC x c e)
  · obtain ⟨e, n, ne, nf, d⟩ := I.pin p hp
    have nch : p.1 ∉ ch := fun z => (hch p.1 z).2.2.2 p hp rfl
    exact ⟨keep p.1 p.2 ne nf nch e n, free p.1 p.2 nch e n, ne, nf, d⟩
theorem Inv.un {t' : Nat} (I : Inv X pins σ H s) (u : Un X.fs [] H H' s.heap h') (hok : HOk X.prog X.w H' h') : Inv X pins σ H' { s with heap := h', toks := t' } := by
  obtain ⟨m, ⟨o, es, ep, ho, r⟩, _⟩ := id I.loc
  obtain ⟨sl, hL⟩ := u.any ho I.free (by simp)
  exact I.step (g' := s.gens) (d' := s.drawn) (ch := []) (fun _ z => nomatch z) (fun b o _ hb _ e n => u.keep b o e n hb (by simp)) (fun b o _ hb _ e n => u.slot b o e n hb (by simp)) (fun b o _ e n => u.free b o e n (by simp)) (fun b o _ e => u.there b o e (by simp)) u.tups u.frzs u.tbls (fun m' hm => by
    obtain ⟨o', es', ep', ho', r'⟩ := hm
    rw [ho] at ho'; cases ho'
    exact ⟨_, es', ep', hL, r'⟩) hok I.bare
theorem Inv.call {g' : Array GenState} {t' : Nat} {d' : Drawn} {ch : List Addr} (I : Inv X pins σ H s) (u : Un (frs X.stack) ch H H' s.heap h') (hok : HOk X.prog X.w H' h') (hg : AllBare g')
    (hch : ∀ b ∈ ch, (b ∈ X.ex \/ X.s₀.heap.objs.size <= b) /\ b ≠ X.env.locals /\ (∀ x c, X.env.cells.lookup x = some c -> c ≠ b) /\ ∀ p ∈ X.pn ++ pins, p.1 ≠ b) :
    Inv X pins σ H' { s with heap := h', gens := g', drawn := d', toks := t' } := by
  obtain ⟨m, ⟨o, es, ep, ho, r⟩, _⟩ := id I.loc
  obtain ⟨sl, hL⟩ := u.any ho I.free fun z => (hch _ z).2.1 rfl
  exact I.step (ch := ch) hch (fun b o hL hb hc e n => u.keep b o e n (fun z => (List.mem_cons.mp (I.stkSub b z)).elim hL hb) hc) (fun b o _ _ hc e n => u.any e n hc) (fun b o hc e n => u.free b o e n hc) (fun b o hc e => u.there b o e hc) u.tups u.frzs u.tbls (fun m' hm => by
    obtain ⟨o', es', ep', ho', r'⟩ := hm
    rw [ho] at ho'; cases ho'
    exact ⟨_, es', ep', hL, r'⟩) hok hg
theorem Inv.turned {t' : Nat} {it : Addr} (I : Inv X pins σ H s) (k : ∀ b o, b ≠ it -> s.heap.get? b = some o -> h'.get? b = some o) (hn : H it = none) (hL : it ≠ X.env.locals)
    (h1 : it ∈ X.ex \/ X.s₀.heap.objs.size <= it) (h2 : ∀ x c, X.env.cells.lookup x = some c -> c ≠ it) (h3 : ∀ p ∈ X.pn ++ pins, p.1 ≠ it) : Inv X pins σ H { s with heap := h', toks := t' } := by
  have nit : ∀ b u, H b = some u -> b ≠ it := fun b u e z => by rw [z, hn] at e; cases e
  refine I.step (g' := s.gens) (d' := s.drawn) (ch := [it]) (fun b hb => ?_) (fun b o _ _ hc e _ => k b o (fun z => hc (by simp [z])) e) (fun b o _ _ hc e _ => ⟨o.slots, k b o (fun z => hc (by simp [z])) e⟩) (fun _ _ _ _ n => n)
    (fun b o hc e => ⟨o, k b o (fun z => hc (by simp [z])) e⟩) (fun _ _ e => e) (fun _ _ _ e => e) (fun b ps e => ⟨#[], by rw [e]; simp⟩) (fun m hm => ?_) (fun b u e => ?_) I.bare
  · have e : b = it := by simpa using hb
    subst e
    exact ⟨h1, hL, h2, h3⟩
  · obtain ⟨o, es, ep, ho, r⟩ := hm
    exact ⟨o, es, ep, k _ o (Ne.symm hL) ho, r⟩
  · refine (I.hok b u e).stay (fun c v hc q => k c v ?_ q) (fun _ q => q) fun _ _ q => q
    rcases hc with z | z
    · rw [z]; exact nit b u e
    · exact nit c _ z
theorem Inv.tok (I : Inv X pins σ H s) (t : Nat) : Inv X pins σ H { s with toks := t } := I.un (h' := s.heap) (t' := t) Un.refl I.hok
theorem Inv.kept {t' : Nat} (I : Inv X pins σ H s) (k : ∀ b u, s.heap.get? b = some u -> h'.get? b = some u) : Inv X pins σ H { s with heap := h', toks := t' } := I.un (Un.kept k) (I.hok.kept k)
theorem Inv.laid {a : Addr} {o : HO} {t' : Nat} (I : Inv X pins σ H s) (k : ∀ b u, s.heap.get? b = some u -> h'.get? b = some u) (hp : s.heap.objs.size <= a) (new : ObjOk X.prog X.w (upd H a o) h' a o) :
    Inv X pins σ (upd H a o) { s with heap := h', toks := t' } := I.un (Un.laid k hp (I.hok.fresh hp)) (I.hok.laid k hp new)
theorem Inv.write {x e : Addr} {o : HO} {t' : Nat} (I : Inv X pins σ H s) (mu : Mut (H x)) (he : e = x \/ H e = some (.own x)) (k : ∀ b u, b ≠ e -> s.heap.get? b = some u -> h'.get? b = some u) (heo : ∃ u, h'.get? e = some u)
    (new : ObjOk X.prog X.w (upd H x o) h' x o) : Inv X pins σ (upd H x o) { s with heap := h', toks := t' } := I.un (Un.write mu he k heo) (I.hok.write mu he k heo new)
theorem Inv.pins_of {pins' : List (Addr × Obj)} (I : Inv X pins σ H s) (h : ∀ p ∈ pins', s.heap.get? p.1 = some p.2 /\ H p.1 = none /\ p.1 ≠ X.env.locals /\ p.1 ∉ X.fs /\ ∀ v, p.2.data ≠ .cell v) : Inv X pins' σ H s :=
  ⟨I.ok, I.os, I.bare, I.base, I.loc, I.cell, I.free, I.freeC, fun p hp => (List.mem_append.mp hp).elim (fun z => I.pin p (List.mem_append_left _ z)) (h p), I.hok, I.len⟩
theorem nodup_ix {N : List Str} (hN : N.Nodup) {i j : Nat} {x : Str} (a : N[i]? = some x) (b : N[j]? = some x) : i = j := by
  obtain ⟨h1, e1⟩ := List.getElem?_eq_some_iff.mp a
  obtain ⟨h2, e2⟩ := List.getElem?_eq_some_iff.mp b
  exact (List.getElem_inj hN).mp (e1.trans e2.symm)
theorem store_ok2 {M : Model} {A : Around} {E : Value -> Shared -> Prop} {i : Nat} {x : Str} {v : V} {u : Value} {Q : Unit -> Shared -> Prop} (I : Inv X pins σ H s) (hN : X.N.Nodup) (hi : X.N[i]? = some x) (hx : Loc X.env.scope x) (r : RelV v u)
    (h : ∀ s', Inv X pins (σ.set i (some v)) H s' -> (∃ a, Heap.SameBut a s.heap s'.heap /\ (a = X.env.locals \/ X.env.cells.lookup x = some a)) -> Q () s') (hf : X.fn x = true \/ X.env.scope.names.lookup x = some .local := by first | exact .inl rfl | exact .inr rfl | assumption) : wpAny M A (storeName X.env x u) Q E s := by
  obtain ⟨m, hn, hl⟩ := id I.loc
  have hcls : (X.env.scope.kind == .class || (X.env.scope.kind == .module && X.env.locals != X.env.globals)) = false := by rw [I.ok.kind]; rfl
  have hiσ : i < σ.length := by rw [I.len]; exact (List.getElem?_eq_some_iff.mp hi).1
  have cne := I.cne
  have tracked : ∀ {a : Addr} {h' : Heap}, (∃ o, s.heap.get? a = some o /\ H a = none) -> Heap.SameBut a s.heap h' -> HOk X.prog X.w H h' := fun {a h'} ha hs b ob e => by
    obtain ⟨_, _, hfree⟩ := ha
    refine (I.hok b ob e).stay (fun c w' hc q => (hs.2 c ?_).trans q) (fun _ q => q) fun _ _ q => q
    rintro rfl
    rcases hc with rfl | hc
    · rw [hfree] at e; cases e
    · rw [hfree] at hc; cases hc
  rcases hx with hk | hk
  · refine wpAny_storeName_local hk hn (fun h' hn' hs => ?_) hcls
    obtain ⟨oL, _, _, hoL, _⟩ := id hn
    refine h _ ⟨I.ok, I.os, I.bare, ⟨fun b o e n hb hx => ?_, fun b o e n hb hx => ?_, I.base.free, fun b o e hx => ?_, I.base.tups, I.base.frzs, I.base.tbls⟩, ⟨_, hn', fun j y v' e1 e2 e3 => ?_⟩, fun y c e => ?_, I.free, I.freeC, fun p hp => ?_, tracked ⟨oL, hoL, I.free⟩ hs, by simpa using I.len⟩ ⟨_, hs, .inl rfl⟩
    · exact (hs.2 b (Nat.ne_of_lt (Nat.lt_of_lt_of_le (Heap.lt_size e) I.ok.above))).trans (I.base.keep b o e n hb hx)
    · obtain ⟨sl, e1⟩ := I.base.slot b o e n hb hx
      exact ⟨sl, (hs.2 b (Nat.ne_of_lt (Nat.lt_of_lt_of_le (Heap.lt_size e) I.ok.above))).trans e1⟩
    · obtain ⟨o', e1⟩ := I.base.there b o e hx
      exact ⟨o', (hs.2 b (Nat.ne_of_lt (Nat.lt_of_lt_of_le (Heap.lt_size e) I.ok.above))).trans e1⟩
    · by_cases hj : j = i
      · subst hj
        rw [hi] at e1; cases e1
        rw [List.getElem?_set_self hiσ] at e2
        cases e2
        exact ⟨u, r, .inl ⟨hk, by simp⟩⟩
      · rw [List.getElem?_set_ne (Ne.symm hj)] at e2
        obtain ⟨u', r', q⟩ := hl j y v' e1 e2 e3
        refine ⟨u', r', ?_⟩
        rcases q with ⟨k, e⟩ | ⟨k, c, e, z⟩
        · refine .inl ⟨k, ?_⟩
          have : y ≠ x := fun e => hj (nodup_ix hN e1 (e ▸ hi))
          simp [this, e]
        · exact .inr ⟨k, c, e, z.sameBut hs (cne y c e)⟩
    · obtain ⟨w', z⟩ := I.cell y c e
      exact ⟨w', z.sameBut hs (cne y c e)⟩
    · obtain ⟨e, n, ne, nf, d⟩ := I.pin p hp
      exact ⟨(hs.2 p.1 ne).trans e, n, ne, nf, d⟩
  · have hfn : X.fn x = true := by
      rcases hf with z | z
      · exact z
      · rw [z] at hk; cases hk
    obtain ⟨c, hc⟩ := I.ok.has x (.inl hk)
    obtain ⟨w', z⟩ := I.cell x c hc
    refine wpAny_storeName_cell I.ok.kind hk hc z (fun h' hc' hs => ?_)
    obtain ⟨oc, hoc, hocd⟩ := id z
    refine h { s with heap := h' } ⟨I.ok, I.os, I.bare, ⟨fun b o e n hb hx => ?_, fun b o e n hb hx => ?_, I.base.free, fun b o e hx => ?_, I.base.tups, I.base.frzs, I.base.tbls⟩, ⟨m, hn.sameBut hs (Ne.symm (cne x c hc)), fun j y v' e1 e2 e3 => ?_⟩, fun y c' e => ?_, I.free, I.freeC, fun p hp => ?_, tracked ⟨oc, hoc, I.freeC x c hc⟩ hs, by simpa using I.len⟩ ⟨c, hs, .inr hc⟩
    · exact (hs.2 b (Nat.ne_of_lt (Nat.lt_of_lt_of_le (Heap.lt_size e) (I.ok.cab x c hfn hc)))).trans (I.base.keep b o e n hb hx)
    · obtain ⟨sl, e1⟩ := I.base.slot b o e n hb hx
      exact ⟨sl, (hs.2 b (Nat.ne_of_lt (Nat.lt_of_lt_of_le (Heap.lt_size e) (I.ok.cab x c hfn hc)))).trans e1⟩
    · obtain ⟨o', e1⟩ := I.base.there b o e hx
      exact ⟨o', (hs.2 b (Nat.ne_of_lt (Nat.lt_of_lt_of_le (Heap.lt_size e) (I.ok.cab x c hfn hc)))).trans e1⟩
    · by_cases hj : j = i
      · subst hj
        rw [hi] at e1; cases e1
        rw [List.getElem?_set_self hiσ] at e2
        cases e2
        exact ⟨u, r, .inr ⟨.inl hk, c, hc, hc'⟩⟩
      · rw [List.getElem?_set_ne (Ne.symm hj)] at e2
        obtain ⟨u', r', q⟩ := hl j y v' e1 e2 e3
        refine ⟨u', r', ?_⟩
        rcases q with q | ⟨k, c', e, z'⟩
        · exact .inl q
        · refine .inr ⟨k, c', e, z'.sameBut hs ?_⟩
          rintro rfl
          exact hj (nodup_ix hN e1 (I.ok.inj _ _ _ e hc ▸ hi))
    · by_cases hcc : c' = c
      · subst hcc; exact ⟨_, hc'⟩
      · obtain ⟨w2, z2⟩ := I.cell y c' e
        exact ⟨w2, z2.sameBut hs hcc⟩
    · obtain ⟨e, n, ne, nf, d⟩ := I.pin p hp
      refine ⟨(hs.2 p.1 ?_).trans e, n, ne, nf, d⟩
      intro q
      rw [q, hoc] at e
      have q' : oc = p.2 := Option.some.inj e
      exact d w' (by rw [<- q']; exact hocd)
theorem store_ok {M : Model} {A : Around} {E : Value -> Shared -> Prop} {i : Nat} {x : Str} {v : V} {u : Value} {Q : Unit -> Shared -> Prop} (I : Inv X pins σ H s) (hN : X.N.Nodup) (hi : X.N[i]? = some x) (hx : Loc X.env.scope x) (r : RelV v u)
    (h : ∀ s', Inv X pins (σ.set i (some v)) H s' -> Q () s') (hf : X.fn x = true \/ X.env.scope.names.lookup x = some .local := by first | exact .inl rfl | exact .inr rfl | assumption) : wpAny M A (storeName X.env x u) Q E s :=
  store_ok2 I hN hi hx r (fun s' I' _ => h s' I') hf
theorem Inv.call' {s' : Shared} {ch : List Addr} (I : Inv X pins σ H s) (ho : s'.os = s.os) (u : Un (frs X.stack) ch H H' s.heap s'.heap) (hok : HOk X.prog X.w H' s'.heap) (hg : AllBare s'.gens)
    (hch : ∀ b ∈ ch, (b ∈ X.ex \/ X.s₀.heap.objs.size <= b) /\ b ≠ X.env.locals /\ (∀ x c, X.env.cells.lookup x = some c -> c ≠ b) /\ ∀ p ∈ X.pn ++ pins, p.1 ≠ b) : Inv X pins σ H' s' := by
  obtain ⟨h', g', d', t', o'⟩ := s'
  have e : o' = s.os := ho
  subst e
  exact I.call (g' := g') (t' := t') (d' := d') u hok hg hch
end
abbrev XK := Value -> Option Addr -> Hp -> Prop
abbrev St := List (Option V)
abbrev VK := V -> Hp -> Prop
abbrev TE := St -> Hp -> VK -> Prop
abbrev TT := St -> Hp -> (Bool -> Hp -> Prop) -> Prop
abbrev TA := St -> Hp -> (List V -> Hp -> Prop) -> Prop
structure Ends where
  nx : St -> Hp -> Prop
  rt : VK
  bk : St -> Hp -> Prop := fun _ _ => False
  ct : St -> Hp -> Prop := fun _ _ => False
abbrev TS := Ends -> St -> Hp -> Prop
def EP (X : Cx) (pins : List (Addr × Obj)) (σ : St) (Q : VK) (u : Value) (s' : Shared) : Prop := ∃ v H', Inv X pins σ H' s' /\ RelV v u /\ Q v H'
def TP (X : Cx) (pins : List (Addr × Obj)) (σ : St) (Q : Bool -> Hp -> Prop) (b : Bool) (s' : Shared) : Prop := ∃ H', Inv X pins σ H' s' /\ Q b H'
def AP (X : Cx) (pins : List (Addr × Obj)) (σ : St) (Q : List V -> Hp -> Prop) (us : List Value) (s' : Shared) : Prop := ∃ vs H', Inv X pins σ H' s' /\ Vals vs us /\ Q vs H'
def SP (X : Cx) (pins : List (Addr × Obj)) (D : Ends) (f : Flow) (s' : Shared) : Prop :=
  match f with
  | .next => ∃ σ' H', Inv X pins σ' H' s' /\ D.nx σ' H'
  | .brk => ∃ σ' H', Inv X pins σ' H' s' /\ D.bk σ' H'
  | .cont => ∃ σ' H', Inv X pins σ' H' s' /\ D.ct σ' H'
  | .ret u => ∃ v σ' H', Inv X pins σ' H' s' /\ RelV v u /\ D.rt v H'
def PE (X : Cx) (e : Expr) (t : TE) : Prop :=
  ∀ (pins : List (Addr × Obj)) (s : Shared) (σ : St) (H : Hp) (Q : VK), Inv X pins σ H s -> t σ H Q -> wpAny (model X.prog X.w) X.A (eval e X.env) (EP X pins σ Q) X.xe s
def PT (X : Cx) (e : Expr) (t : TT) : Prop :=
  ∀ (pins : List (Addr × Obj)) (s : Shared) (σ : St) (H : Hp) (Q : Bool -> Hp -> Prop), Inv X pins σ H s -> t σ H Q -> wpAny (model X.prog X.w) X.A (isTrue e X.env (eval e X.env)) (TP X pins σ Q) X.xe s
def PW (X : Cx) (e : Expr) (t : TT) : Prop :=
  ∀ (whole : Sem Value) (pins : List (Addr × Obj)) (s : Shared) (σ : St) (H : Hp) (Q : Bool -> Hp -> Prop), Inv X pins σ H s -> t σ H Q -> wpAny (model X.prog X.w) X.A (isTrue e X.env whole) (TP X pins σ Q) X.xe s
theorem PW.pt {X : Cx} {e : Expr} {t : TT} (h : PW X e t) : PT X e t := h _
def PA (X : Cx) (es : List Expr) (t : TA) : Prop :=
  ∀ (pos : Pos) (pins : List (Addr × Obj)) (s : Shared) (σ : St) (H : Hp) (Q : List V -> Hp -> Prop), Inv X pins σ H s -> t σ H Q -> wpAny (model X.prog X.w) X.A (spliced (backTo pos (starEach es X.env))) (AP X pins σ Q) X.xe s
def PS (X : Cx) (st : Stmt) (t : TS) : Prop :=
  ∀ (pins : List (Addr × Obj)) (s : Shared) (σ : St) (H : Hp) (D : Ends), Inv X pins σ H s -> t D σ H -> wpAny (model X.prog X.w) X.A (exec st X.env) (SP X pins D) X.xe s
def PSs (X : Cx) (st : List Stmt) (t : TS) : Prop :=
  ∀ (pins : List (Addr × Obj)) (s : Shared) (σ : St) (H : Hp) (D : Ends), Inv X pins σ H s -> t D σ H -> wpAny (model X.prog X.w) X.A (execs st X.env) (SP X pins D) X.xe s
theorem thn {α : Type} {t : Sem α} {Q Q' : α -> Shared -> Prop} {M : Model} {A : Around} {E : Value -> Shared -> Prop} {s : Shared} (h : wpAny M A t Q E s) (hQ : ∀ a s, Q a s -> Q' a s) : wpAny M A t Q' E s := wpAny_mono h hQ fun _ _ x => x
section
variable {X : Cx}
def tVar (i : Nat) : TE := fun σ H Q => ∃ v, σ[i]? = some (some v) /\ Q v H
def tC (v : V) : TE := fun _ H Q => Q v H
theorem pe_var {i : Nat} {x : Str} {pos : Pos} (hN : X.N[i]? = some x) (hv : Vis X.env.scope x) (hd : (x == ("__debug__" : Str)) = false := by decide) (hcd : (x == ("__classdict__" : Str)) = false := by decide) : PE X (.Name x pos) (tVar i) := by
  intro pins s σ H Q I h
  obtain ⟨v, e, h⟩ := h
  obtain ⟨m, hn, hl⟩ := I.loc
  obtain ⟨u, r, l⟩ := hl i x v hN e hv
  have fin : EP X pins σ Q u s := ⟨v, H, I, r, h⟩
  rcases l with ⟨hk, hm⟩ | ⟨hk, c, hc, hcell⟩
  · exact wpAny_Name (wpAny_loadName_local I.ok.kind hk hn hm fin) hd
  · rcases hk with hk | hk
    · exact wpAny_Name (wpAny_loadName_cell I.ok.kind hk hc hcell fin) hd
    · exact wpAny_Name (wpAny_loadName_free I.ok.kind hk hc hcell fin hcd) hd
theorem pe_int {i j pos} : PE X (.Constant (.int i) j pos) (tC (.int i)) := fun _ _ _ H _ I h => wpAny_Constant_int ⟨.int i, H, I.tok _, ⟨_, rfl⟩, h⟩
theorem pe_bl {b j pos} : PE X (.Constant (.bool b) j pos) (tC (.bl b)) := fun _ _ _ H _ I h => Constant_bool ⟨.bl b, H, I, rfl, h⟩
theorem pe_non {j pos} : PE X (.Constant .none j pos) (tC .non) := fun _ _ _ H _ I h => Constant_none ⟨.non, H, I, rfl, h⟩
theorem pe_str {x j pos} : PE X (.Constant (.str x) j pos) (tC (.str x)) := fun _ _ _ H _ I h => Calls.Constant_str ⟨.str x, H, I.tok _, ⟨_, rfl⟩, h⟩
def Gl (X : Cx) (x : Str) : Prop := X.env.kindOf x = some .globalImplicit
theorem ld_glob {E : Value -> Shared -> Prop} {pins : List (Addr × Obj)} {s : Shared} {σ : St} {H : Hp} {x : Str} {u : Value} {pos : Pos} {Q : Value -> Shared -> Prop} (I : Inv X pins σ H s) (hg : Gl X x) (hm : X.mg x = some u) (h : Q u s)
    (hd : (x == ("__debug__" : Str)) = false := by decide) : wpAny (model X.prog X.w) X.A (eval (.Name x pos) X.env) Q E s :=
  Calls.Name_function_global I.ok.kind hg (Calls.loadGlobal_global (by rw [I.ok.glob]; exact I.mod.glob.keeps I.bk) hm h) hd
theorem ld_blt {E : Value -> Shared -> Prop} {pins : List (Addr × Obj)} {s : Shared} {σ : St} {H : Hp} {x : Str} {u : Value} {pos : Pos} {Q : Value -> Shared -> Prop} (I : Inv X pins σ H s) (hg : Gl X x) (hm : X.mg x = none) (hv : bootBuiltins x = some u) (h : Q u s)
    (hn : x ≠ "__name__" := by decide) (hd : (x == ("__debug__" : Str)) = false := by decide) : wpAny (model X.prog X.w) X.A (eval (.Name x pos) X.env) Q E s := by
  obtain ⟨mb, h1, h2⟩ := I.mod.blt
  exact Calls.Name_function_global I.ok.kind hg (Calls.loadGlobal_builtin (by rw [I.ok.glob]; exact I.mod.glob.keeps I.bk) hm (by rw [I.ok.blt]; exact h1.keeps I.bk) ((h2 x hn).trans hv) h) hd
theorem pe_glob {x : Str} {v : V} {u : Value} {pos : Pos} (hg : Gl X x) (hm : X.mg x = some u) (r : RelV v u) (hd : (x == ("__debug__" : Str)) = false := by decide) : PE X (.Name x pos) (tC v) :=
  fun _ _ _ H _ I h => ld_glob I hg hm ⟨v, H, I, r, h⟩ hd
theorem pe_bltn {x : Str} {v : V} {u : Value} {pos : Pos} (hg : Gl X x) (hm : X.mg x = none) (hv : bootBuiltins x = some u) (r : RelV v u) (hn : x ≠ "__name__" := by decide) (hd : (x == ("__debug__" : Str)) = false := by decide) : PE X (.Name x pos) (tC v) :=
  fun _ _ _ H _ I h => ld_blt I hg hm hv ⟨v, H, I, r, h⟩ hn hd
variable {a b : Expr} {ta tb : TE} {pos : Pos}
def tB (t : TE) : TT := fun σ H Q => t σ H fun x H1 => ∃ c, x = .bl c /\ Q c H1
theorem pt_val {e : Expr} {t : TE} (h : PE X e t) (he : ∀ whole, isTrue e X.env whole = (do let v <- whole; standAt e.pos; holding [v] (truthy v)) := by intro _; rfl) : PT X e (tB t) := by
  intro pins s σ H Q I hw
  refine isTrue_plain (thn (h pins s σ H _ I hw) fun v s1 ⟨x, H1, I1, r1, q1⟩ => ?_) (he _)
  obtain ⟨d, rfl, q⟩ := q1
  cases r1
  exact wpAny_truthy_bool ⟨H1, I1, q⟩
variable {tA tB' : TT} {rest : List Expr}
def tAnd (t u : TT) : TT := fun σ H Q => t σ H fun c H1 => if c = true then u σ H1 Q else Q false H1
def tOr (t u : TT) : TT := fun σ H Q => t σ H fun c H1 => if c = true then Q true H1 else u σ H1 Q
def tNot (t : TT) : TT := fun σ H Q => t σ H fun c H1 => Q (!c) H1
theorem pw_and1 (ha : PT X a tA) : PW X (.BoolOp .And [a] pos) tA := by
  intro wh pins s σ H Q I h
  refine isTrue_and (thn (ha pins s σ H Q I h) fun c s1 e => ?_)
  cases c with
  | true => exact isTrue_and_nil e
  | false => exact e
theorem pw_or1 (ha : PT X a tA) : PW X (.BoolOp .Or [a] pos) tA := by
  intro wh pins s σ H Q I h
  refine isTrue_or (thn (ha pins s σ H Q I h) fun c s1 e => ?_)
  cases c with
  | false => exact isTrue_or_nil e
  | true => exact e
theorem pw_and (ha : PT X a tA) (hb : PW X (.BoolOp .And (b :: rest) pos) tB') : PW X (.BoolOp .And (a :: b :: rest) pos) (tAnd tA tB') := by
  intro wh pins s σ H Q I h
  refine isTrue_and (thn (ha pins s σ H _ I h) fun c s1 ⟨H1, I1, q1⟩ => ?_)
  cases c with
  | true => exact hb wh pins s1 σ H1 Q I1 q1
  | false => exact ⟨H1, I1, q1⟩
theorem pw_or (ha : PT X a tA) (hb : PW X (.BoolOp .Or (b :: rest) pos) tB') : PW X (.BoolOp .Or (a :: b :: rest) pos) (tOr tA tB') := by
  intro wh pins s σ H Q I h
  refine isTrue_or (thn (ha pins s σ H _ I h) fun c s1 ⟨H1, I1, q1⟩ => ?_)
  cases c with
  | true => exact ⟨H1, I1, q1⟩
  | false => exact hb wh pins s1 σ H1 Q I1 q1
theorem pt_not (ha : PT X a tA) : PT X (.UnaryOp .Not a pos) (tNot tA) := by
  intro pins s σ H Q I h
  exact isTrue_not (ha pins s σ H (fun c H1 => Q (!c) H1) I h)
def tAndV (ta tb : TE) : TE := fun σ H Q => ta σ H fun x H1 => ∃ c, x = .bl c /\ if c = true then tb σ H1 Q else Q (.bl false) H1
theorem pe_one {op} {t : TE} (h : PE X a t) : PE X (.BoolOp op [a] pos) t := fun pins s σ H Q I hw => BoolOp_one (h pins s σ H Q I hw)
theorem pe_and (ha : PE X a ta) (hb : PE X (.BoolOp .And (b :: rest) pos) tb) : PE X (.BoolOp .And (a :: b :: rest) pos) (tAndV ta tb) := by
  intro pins s σ H Q I h
  refine BoolOp_and (thn (ha pins s σ H _ I h) fun v s1 ⟨x, H1, I1, r1, q1⟩ => ?_)
  obtain ⟨c, rfl, q1⟩ := q1
  cases r1
  refine wpAny_truthy_bool ?_
  cases c with
  | true => exact hb pins s1 σ H1 Q I1 q1
  | false => exact ⟨.bl false, H1, I1, rfl, q1⟩
end
def SqL (K : PySem.W.Frag) (H : Hp) (a : Addr) (xs : List V) : Prop :=
  Rd H a (.lst xs) \/
    ∃ (o : Obj) (its : Array Value) (n : Nat), K.lookup a = some o /\ o.cls = .type "list" /\ o.dict = none /\ o.data = .seq its n /\ its.size <= sizeLine /\ Vals xs its.toList
def SqT (K : PySem.W.Frag) (H : Hp) (a : Addr) (xs : List V) : Prop :=
  Rd H a (.tup xs) \/
    ∃ (o : Obj) (its : Array Value) (n : Nat), K.lookup a = some o /\ o.cls = .type "tuple" /\ o.data = .seq its n /\ its.size <= sizeLine /\ Vals xs its.toList
def absV : Value -> Option V
  | .none => some .non
  | .bool b => some (.bl b)
  | .int i _ => some (.int i)
  | .str x _ => some (.str x)
  | .bytes b _ => some (.byt b)
  | .float b _ => some (.flt b)
  | .ref a => some (.ref a)
  | .type n => some (.ty n)
  | _ => none
theorem RelV.abs {x : V} {u : Value} (r : RelV x u) : absV u = some x := by
  cases x with
  | non => cases r; rfl
  | bl _ => cases r; rfl
  | int _ => obtain ⟨t, rfl⟩ := r; rfl
  | str _ => obtain ⟨t, rfl⟩ := r; rfl
  | byt _ => obtain ⟨t, rfl⟩ := r; rfl
  | flt _ => obtain ⟨t, rfl⟩ := r; rfl
  | ref _ => cases r; rfl
  | ty _ => cases r; rfl
theorem RelV.inj {x y : V} {u : Value} (r : RelV x u) (q : RelV y u) : x = y := Option.some.inj (r.abs.symm.trans q.abs)
theorem Vals.inj : ∀ {xs ys : List V} {us : List Value}, Vals xs us -> Vals ys us -> xs = ys
  | _, _, _, .nil, .nil => rfl
  | _, _, _, .cons r t, .cons r' t' => by rw [r.inj r', Vals.inj t t']
section
variable {X : Cx} {pins : List (Addr × Obj)} {σ : St} {H : Hp} {s : Shared} {a : Addr} {xs ys : List V}
theorem SqL.of {K : PySem.W.Frag} (h : H a = some (.lst xs)) : SqL K H a xs := .inl (.inl h)
theorem SqT.of {K : PySem.W.Frag} (h : H a = some (.tup xs)) : SqT K H a xs := .inl (.inl h)
theorem Inv.list (I : Inv X pins σ H s) (h : SqL X.K H a xs) : ∃ its : List Value, Vals xs its /\ PlainL s.heap a its.toArray /\ xs.length <= sizeLine := by
  rcases h with h | ⟨o, its, n, hk, hc, hd, hs, hz, r⟩
  · obtain ⟨z, its, n, r, e⟩ := h.ok I.hok
    exact ⟨its, r, ⟨_, n, e, rfl, rfl, rfl⟩, z⟩
  · refine ⟨its.toList, r, ⟨o, n, I.kIn a o hk, hc, hd, by simpa using hs⟩, ?_⟩
    have e := r.length
    simp only [Array.length_toList] at e
    lia
theorem Inv.tuple (I : Inv X pins σ H s) (h : SqT X.K H a xs) : ∃ its : List Value, Vals xs its /\ IsTup s.heap a its.toArray /\ xs.length <= sizeLine := by
  rcases h with h | ⟨o, its, n, hk, hc, hs, hz, r⟩
  · obtain ⟨z, its, r, p⟩ := h.ok I.hok
    exact ⟨its, r, p, z⟩
  · refine ⟨its.toList, r, ⟨o, I.kIn a o hk, hc, n, by simpa using hs⟩, ?_⟩
    have e := r.length
    simp only [Array.length_toList] at e
    lia
theorem Inv.list_inj (I : Inv X pins σ H s) (h : SqL X.K H a xs) (h' : SqL X.K H a ys) : xs = ys := by
  obtain ⟨its, r, ⟨o, n, e, _, _, d⟩, _⟩ := I.list h
  obtain ⟨its', r', ⟨o', n', e', _, _, d'⟩, _⟩ := I.list h'
  rw [e] at e'; cases e'
  rw [d] at d'
  injection d' with d1 _
  have : its = its' := by simpa using congrArg Array.toList d1
  subst this
  exact r.inj r'
theorem Inv.tuple_inj (I : Inv X pins σ H s) (h : SqT X.K H a xs) (h' : SqT X.K H a ys) : xs = ys := by
  obtain ⟨its, r, ⟨o, e, _, n, d⟩, _⟩ := I.tuple h
  obtain ⟨its', r', ⟨o', e', _, n', d'⟩, _⟩ := I.tuple h'
  rw [e] at e'; cases e'
  rw [d] at d'
  injection d' with d1 _
  have : its = its' := by simpa using congrArg Array.toList d1
  subst this
  exact r.inj r'
end
abbrev Cx.wish (X : Cx) (E : Value -> Shared -> Prop) : Cx := { X with xe := E }
abbrev Cx.nox (X : Cx) : Cx := X.wish fun _ _ => False
theorem Cx.Ok.wish {X : Cx} (ok : X.Ok) (E : Value -> Shared -> Prop) : (X.wish E).Ok :=
  ⟨ok.mod, ok.kind, ok.glob, ok.blt, ok.above, ok.inj, ok.has, ok.cab, ok.hd, ok.frames, ok.stk, ok.exf, ok.bs, ok.bsz, ok.noex, ok.exfs, ok.funs, ok.frf⟩
theorem Cx.Ok.unwish {X : Cx} {E : Value -> Shared -> Prop} (ok : (X.wish E).Ok) : X.Ok :=
  ⟨ok.mod, ok.kind, ok.glob, ok.blt, ok.above, ok.inj, ok.has, ok.cab, ok.hd, ok.frames, ok.stk, ok.exf, ok.bs, ok.bsz, ok.noex, ok.exfs, ok.funs, ok.frf⟩
section
variable {X : Cx} {pins : List (Addr × Obj)} {σ : St} {H : Hp} {s : Shared} {E : Value -> Shared -> Prop}
theorem Inv.wish (I : Inv X pins σ H s) (E : Value -> Shared -> Prop) : Inv (X.wish E) pins σ H s := ⟨I.ok.wish E, I.os, I.bare, I.base, I.loc, I.cell, I.free, I.freeC, I.pin, I.hok, I.len⟩
theorem Inv.unwish (I : Inv (X.wish E) pins σ H s) : Inv X pins σ H s := ⟨I.ok.unwish, I.os, I.bare, I.base, I.loc, I.cell, I.free, I.freeC, I.pin, I.hok, I.len⟩
theorem SP.unwish {D : Ends} {f : Flow} {s' : Shared} (h : SP (X.wish E) pins D f s') : SP X pins D f s' := by
  cases f with
  | next => obtain ⟨σ', H', I, q⟩ := h; exact ⟨σ', H', I.unwish, q⟩
  | brk => obtain ⟨σ', H', I, q⟩ := h; exact ⟨σ', H', I.unwish, q⟩
  | cont => obtain ⟨σ', H', I, q⟩ := h; exact ⟨σ', H', I.unwish, q⟩
  | ret u => obtain ⟨v, σ', H', I, r, q⟩ := h; exact ⟨v, σ', H', I.unwish, r, q⟩
theorem PSs.nox {st : List Stmt} {t : TS} (h : PSs X.nox st t) : PSs X st t := fun pins s σ H D I hw =>
  wpAny_mono (h pins s σ H D (I.wish _) hw) (fun _ _ q => q.unwish) fun _ _ z => False.elim z
end
section
variable {X : Cx} {st : Stmt} {rest : List Stmt} {t u : TS} {e : Expr} {te : TE} {pos : Pos}
def tNext : TS := fun D σ H => D.nx σ H
def tSeq (t u : TS) : TS := fun D σ H => t { D with nx := u D } σ H
theorem pss_nil : PSs X [] tNext := fun _ _ σ H _ I h => wpAny_execs_nil ⟨σ, H, I, h⟩
theorem pss_cons (h1 : PS X st t) (h2 : PSs X rest u) : PSs X (st :: rest) (tSeq t u) := by
  intro pins s σ H D I h
  refine wpAny_execs_cons (thn (h1 pins s σ H { D with nx := u D } I h) fun f s1 q => ?_)
  cases f with
  | next =>
    obtain ⟨σ', H', I', q⟩ := q
    exact h2 pins s1 σ' H' D I' q
  | ret v => exact q
  | brk => exact q
  | cont => exact q
theorem pss_one (h1 : PS X st t) : PSs X [st] t := by
  intro pins s σ H D I h
  refine wpAny_execs_cons (thn (h1 pins s σ H D I h) fun f s1 q => ?_)
  cases f with
  | next => exact wpAny_execs_nil q
  | ret v => exact q
  | brk => exact q
  | cont => exact q
theorem Inv.quiet {pins : List (Addr × Obj)} {σ : St} {H : Hp} {s : Shared} (I : Inv X pins σ H s) : interactive X.env = false := by simp [interactive, I.ok.kind]
def tDrop (te : TE) : TS := fun D σ H => te σ H fun _ H1 => D.nx σ H1
theorem ps_expr (he : PE X e te) (hs : swapsWith e none pos.line X.env = pure false := by rfl) : PS X (.Expr e pos) (tDrop te) := by
  intro pins s σ H D I h
  exact wpAny_Expr_any (thn (he pins s σ H _ I h) fun v s1 ⟨x, H1, I1, r1, q1⟩ => ⟨σ, H1, I1, q1⟩) I.quiet hs
def tRet (te : TE) : TS := fun D σ H => te σ H D.rt
theorem ps_ret (he : PE X e te) : PS X (.Return (some e) pos) (tRet te) := by
  intro pins s σ H D I h
  exact wpAny_Return_some (thn (he pins s σ H _ I h) fun v s1 ⟨x, H1, I1, r1, q1⟩ => ⟨x, σ, H1, I1, r1, q1⟩)
def tIfS (c : TT) (t u : TS) : TS := fun D σ H => c σ H fun b H1 => if b = true then t D σ H1 else u D σ H1
theorem ps_if {c : Expr} {a b : List Stmt} {tc : TT} (hc : PT X c tc) (ha : PSs X a t) (hb : PSs X b u) : PS X (.If c a b pos) (tIfS tc t u) := by
  intro pins s σ H D I h
  refine wpAny_If (thn (hc pins s σ H _ I h) fun d s1 ⟨H1, I1, q1⟩ => ?_)
  cases d with
  | true => exact ha pins s1 σ H1 D I1 q1
  | false => exact hb pins s1 σ H1 D I1 q1
end
abbrev TG := V -> St -> Hp -> (St -> Hp -> Prop) -> Prop
abbrev TGs := List V -> St -> Hp -> (St -> Hp -> Prop) -> Prop
def PG (X : Cx) (target : Expr) (t : TG) : Prop :=
  ∀ (pins : List (Addr × Obj)) (s : Shared) (σ : St) (H : Hp) (v : V) (u : Value) (Q : St -> Hp -> Prop), Inv X pins σ H s -> RelV v u -> t v σ H Q ->
    wpAny (model X.prog X.w) X.A (assign target X.env u) (fun _ s' => ∃ σ' H', Inv X pins σ' H' s' /\ Q σ' H') X.xe s
def PGs (X : Cx) (ts : List Expr) (t : TGs) : Prop :=
  ∀ (pins : List (Addr × Obj)) (s : Shared) (σ : St) (H : Hp) (vs : List V) (us : List Value) (Q : St -> Hp -> Prop), Inv X pins σ H s -> Vals vs us -> t vs σ H Q ->
    wpAny (model X.prog X.w) X.A (assignInOrder ((assignEach ts X.env).map (·.2)) us) (fun _ s' => ∃ σ' H', Inv X pins σ' H' s' /\ Q σ' H') X.xe s
abbrev TSet := V -> V -> V -> Hp -> (Hp -> Prop) -> Prop
def PSet (X : Cx) (t : TSet) : Prop :=
  ∀ (pins : List (Addr × Obj)) (s : Shared) (σ : St) (H : Hp) (o i v : V) (ov iv u : Value) (Q : Hp -> Prop), Inv X pins σ H s -> RelV o ov -> RelV i iv -> RelV v u -> t o i v H Q ->
    wpAny (model X.prog X.w) X.A (setItem ov iv u) (fun _ s' => ∃ H', Inv X pins σ H' s' /\ Q H') X.xe s
section
variable {X : Cx} {pos : Pos}
def gName (i : Nat) : TG := fun v σ H Q => Q (σ.set i (some v)) H
theorem pg_name {i : Nat} {x : Str} (hN : X.N.Nodup) (hi : X.N[i]? = some x) (hx : Loc X.env.scope x) (hf : X.fn x = true \/ X.env.scope.names.lookup x = some .local := by first | exact .inl rfl | exact .inr rfl | assumption) : PG X (.Name x pos) (gName i) := by
  intro pins s σ H v u Q I r h
  exact wpAny_assign_Name (store_ok I hN hi hx r (fun s' I' => ⟨_, H, I', h⟩) hf)
def gNil : TGs := fun vs σ H Q => vs = [] /\ Q σ H
def gCons (t : TG) (u : TGs) : TGs := fun vs σ H Q => ∃ v r, vs = v :: r /\ t v σ H fun σ' H' => u r σ' H' Q
theorem pgs_nil : PGs X [] gNil := by
  intro pins s σ H vs us Q I r h
  obtain ⟨e, h⟩ := h
  subst e
  cases r
  exact assignInOrder_nil ⟨σ, H, I, h⟩
theorem pgs_cons {e : Expr} {es : List Expr} {t : TG} {u : TGs} (h1 : PG X e t) (h2 : PGs X es u)
    (hs : (assignEach (e :: es) X.env).map (·.2) = assign e X.env :: (assignEach es X.env).map (·.2) := by rfl) : PGs X (e :: es) (gCons t u) := by
  intro pins s σ H vs us Q I r h
  obtain ⟨v, vr, e1, h⟩ := h
  subst e1
  cases r with
  | cons r rr =>
    rw [hs]
    refine assignInOrder_cons (thn (h1 pins s σ H _ _ _ I r h) fun _ s1 ⟨σ1, H1, I1, q1⟩ => ?_)
    exact h2 pins s1 σ1 H1 _ _ Q I1 rr q1
def gTup (K : PySem.W.Frag) (n : Nat) (t : TGs) : TG := fun v σ H Q => ∃ a xs, v = .ref a /\ SqT K H a xs /\ xs.length = n /\ t xs σ H Q
theorem pg_tup {es : List Expr} {k : Nat} {t : TGs} {n : Nat} (hc : X.calm = true) (h : PGs X es t)
    (hn : (assignEach es X.env).length = n := by rfl) (hst : (assignEach es X.env).findIdx? (·.1) = none := by rfl) : PG X (.Tuple es k pos) (gTup X.K n t) := by
  intro pins s σ H v u Q I r hw
  obtain ⟨a, xs, e1, hq, hl, hw⟩ := hw
  subst e1
  cases r
  obtain ⟨its, rv, ht, hz⟩ := I.tuple hq
  refine assign_Tuple_tuple (I.ok.hd hc) ht (by simp [hn, <- hl, rv.length]) hst fun h' hx => ?_
  have I1 : Inv X pins σ H { s with heap := h' } := I.kept (t' := s.toks) fun b o e => hx b o (Nat.ne_of_lt (Heap.lt_size e)) e
  exact h pins _ σ H xs _ Q I1 (by simpa using rv) hw
def gSub (to ti : TE) (t : TSet) : TG := fun v σ H Q => to σ H fun o H1 => ti σ H1 fun i H2 => t o i v H2 fun H3 => Q σ H3
theorem pg_sub {o i : Expr} {to ti : TE} {t : TSet} (ho : PE X o to) (hi : PE X i ti) (hs : PSet X t)
    (ha : ∀ v, assign (.Subscript o i pos) X.env v = (do
      let ov <- holding [v] (eval o X.env)
      let iv <- holding [v, ov] (eval i X.env)
      standAt pos
      holding [v, ov, iv] (setItem ov iv v)
      release [v, ov, iv] []) := by intro _; rfl) : PG X (.Subscript o i pos) (gSub to ti t) := by
  intro pins s σ H v u Q I r h
  rw [ha]
  refine wpAny_bind (wpAny_holding (thn (ho pins s σ H _ I h) fun ov s1 ⟨x, H1, I1, r1, q1⟩ => ?_))
  refine wpAny_bind (wpAny_holding (thn (hi pins s1 σ H1 _ I1 q1) fun iv s2 ⟨y, H2, I2, r2, q2⟩ => ?_))
  refine wpAny_bind (wpAny_standAt (wpAny_bind (wpAny_holding (thn (hs pins s2 σ H2 x y v ov iv u _ I2 r1 r2 r q2) fun _ s3 ⟨H3, I3, q3⟩ => ?_))))
  exact wpAny_release ⟨σ, H3, I3, q3⟩
def tAsg (te : TE) (g : TG) : TS := fun D σ H => te σ H fun x H1 => g x σ H1 D.nx
theorem ps_asg {tg e : Expr} {te : TE} {g : TG} (he : PE X e te) (hg : PG X tg g) (hs : swapsWithSole [tg] e pos.line X.env = pure false := by rfl) (hw : swappedStores [tg] e X.env = pure none := by rfl)
    (h1 : (assignEach [tg] X.env).map (·.2) = [assign tg X.env] := by rfl) : PS X (.Assign [tg] e pos) (tAsg te g) := by
  intro pins s σ H D I h
  refine wpAny_Assign_stores (thn (he pins s σ H _ I h) fun v s1 ⟨x, H1, I1, r1, q1⟩ => ?_) hs hw
  rw [h1]
  exact thn (hg pins s1 σ H1 x v _ I1 r1 q1) fun _ s2 q => q
theorem ps_set {i : Nat} {x : Str} {e : Expr} {te : TE} {pos' : Pos} (hN : X.N.Nodup) (hi : X.N[i]? = some x) (hx : Loc X.env.scope x) (he : PE X e te) (hs : swapsWith e (some (.Name x pos')) pos.line X.env = pure false := by rfl) (hf : X.fn x = true \/ X.env.scope.names.lookup x = some .local := by first | exact .inl rfl | exact .inr rfl | assumption) :
    PS X (.Assign [.Name x pos'] e pos) (tAsg te (gName i)) := by
  intro pins s σ H D I h
  refine wpAny_Assign_Name (thn (he pins s σ H _ I h) fun v s1 ⟨y, H1, I1, r1, q1⟩ => ?_) hs
  exact store_ok I1 hN hi hx r1 (fun s2 I2 => ⟨_, H1, I2, q1⟩) hf
end
structure It where
  go : Nat -> Hp -> Prop
  yld : Nat -> Hp -> V -> Hp -> Prop
  stop : Nat -> Hp -> Prop
def FpOk (X : Cx) (pins : List (Addr × Obj)) (H : Hp) (b : Addr) : Prop :=
  H b = none /\ b ≠ X.env.locals /\ b ∉ X.fs /\ (b ∈ X.ex \/ X.s₀.heap.objs.size <= b) /\ (∀ x c, X.env.cells.lookup x = some c -> c ≠ b) /\ ∀ p ∈ X.pn ++ pins, p.1 ≠ b
theorem Inv.fpOk {X : Cx} {pins : List (Addr × Obj)} {σ : St} {H H' : Hp} {s : Shared} {b : Addr} (I : Inv X pins σ H s) (hb : s.heap.objs.size <= b) (hn : H' b = none) : FpOk X pins H' b := by
  refine ⟨hn, Nat.ne_of_gt (Nat.lt_of_lt_of_le I.lt hb), I.nofs hb, .inr (Nat.le_trans I.sz hb), fun x c e z => ?_, fun p hp z => ?_⟩
  · obtain ⟨v, q⟩ := I.cell x c e
    exact absurd (Nat.lt_of_lt_of_le q.lt (by rw [z]; exact hb)) (Nat.lt_irrefl _)
  · exact absurd (Nat.lt_of_lt_of_le (Heap.lt_size (I.pin p hp).1) (by rw [z]; exact hb)) (Nat.lt_irrefl _)
structure Turn (P : Program) (w : World) (K : PySem.W.Frag) (tg : Expr) (J : It) (fp : List Addr) (it : Addr) (tn : Nat -> Heap -> Prop) : Prop where
  mem : it ∈ fp
  obj : ∀ i h, tn i h -> ∀ b ∈ fp, ∃ o, h.get? b = some o /\ ∀ v, o.data ≠ .cell v
  keep : ∀ i h h', tn i h -> (∀ b ∈ fp, ∀ o, h.get? b = some o -> h'.get? b = some o) -> tn i h'
  item : ∀ (X : Cx), X.prog = P -> X.w = w -> X.K = K -> X.calm = true -> ∀ (i : Nat) (pins : List (Addr × Obj)) (s : Shared) (σ : St) (H : Hp) (E : Value -> Shared -> Prop), Inv X pins σ H s -> (∀ b ∈ fp, FpOk X pins H b) -> tn i s.heap -> J.go i H ->
    wpAny (model P w) X.A (pyNext (.ref it)) (fun r s1 => ∃ u, r = some u /\
      wpAny (model P w) X.A (letOwnedTupleGo tg (.ref it) u) (fun _ s2 => ∃ x H', Inv X pins σ H' s2 /\ RelV x u /\ J.yld i H x H' /\ tn (i + 1) s2.heap /\ ∀ b ∈ fp, H' b = none) E s1) E s
  done : ∀ (X : Cx), X.prog = P -> X.w = w -> X.K = K -> X.calm = true -> ∀ (i : Nat) (pins : List (Addr × Obj)) (s : Shared) (σ : St) (H : Hp) (E : Value -> Shared -> Prop), Inv X pins σ H s -> (∀ b ∈ fp, FpOk X pins H b) -> tn i s.heap -> J.stop i H ->
    wpAny (model P w) X.A (pyNext (.ref it)) (fun r s1 => r = none /\ Inv X pins σ H s1) E s
  self : ∀ (A : Around) (i : Nat) (s : Shared) (Q : Value -> Shared -> Prop) (E : Value -> Shared -> Prop), tn i s.heap -> Q (.ref it) s -> wpAny (model P w) A (pyIter (.ref it)) Q E s
abbrev TI := St -> Hp -> (It -> Hp -> Prop) -> Prop
def PIE (X : Cx) (pins : List (Addr × Obj)) (σ : St) (tg : Expr) (R : It -> Hp -> Prop) (itv : Value) (s2 : Shared) : Prop :=
  ∃ (it : Addr) (fp : List Addr) (tn : Nat -> Heap -> Prop) (J : It) (H' : Hp), itv = .ref it /\ Inv X pins σ H' s2 /\ Turn X.prog X.w X.K tg J fp it tn /\ tn 0 s2.heap /\ (∀ b ∈ fp, FpOk X pins H' b) /\ R J H'
def PI (X : Cx) (tg iter : Expr) (wi : TI) : Prop :=
  ∀ (pins : List (Addr × Obj)) (s : Shared) (σ : St) (H : Hp) (R : It -> Hp -> Prop), Inv X pins σ H s -> wi σ H R ->
    wpAny (model X.prog X.w) X.A (eval iter X.env) (fun v s1 => wpAny (model X.prog X.w) X.A (pyIter v) (PIE X pins σ tg R) X.xe s1) X.xe s
theorem go_of {M : Model} {A : Around} {E : Value -> Shared -> Prop} {s : Shared} {tg : Expr} {it : Addr} {u : Value} {o : Obj} {n : String} {vs : Array Value} {Q : Unit -> Shared -> Prop} (ho : s.heap.get? it = some o) (hc : o.cls = .type n) (hd : o.data = .fields vs)
    (hn : ["enumerate", "zip", "dict_itemiterator", "dict_reverseitemiterator", "odict_iterator", "itertools.zip_longest", "itertools.pairwise"].contains n = false) (hQ : Q () s) : wpAny M A (letOwnedTupleGo tg (.ref it) u) Q E s := by
  unfold letOwnedTupleGo
  cases tg <;> first
    | exact wpAny_pure hQ
    | (cases u <;> first
        | exact wpAny_pure hQ
        | (refine wpAny_bind (wpAny_load ho ?_)
           rw [hc, hd]
           show wpAny M A (if (["enumerate", "zip", "dict_itemiterator", "dict_reverseitemiterator", "odict_iterator", "itertools.zip_longest", "itertools.pairwise"].contains n && vs[0]? == some (rawInt _)) = true then _ else _) Q E s
           rw [if_neg (by intro h; rw [hn, Bool.false_and] at h; cases h)]
           exact wpAny_pure hQ))
def Itl (K : PySem.W.Frag) (a : Addr) : It :=
  ⟨fun i H => ∃ xs x, SqL K H a xs /\ xs[i]? = some x, fun i H x H' => H' = H /\ ∀ xs, SqL K H a xs -> xs[i]? = some x, fun i H => ∃ xs, SqL K H a xs /\ xs.length <= i⟩
def Itt (K : PySem.W.Frag) (a : Addr) : It :=
  ⟨fun i H => ∃ xs x, SqT K H a xs /\ xs[i]? = some x, fun i H x H' => H' = H /\ ∀ xs, SqT K H a xs -> xs[i]? = some x, fun i H => ∃ xs, SqT K H a xs /\ xs.length <= i⟩
def Itr (lo : Int) (n : Nat) : It := ⟨fun i _ => i < n, fun i H x H' => H' = H /\ x = .int (lo + i), fun i _ => n <= i⟩
theorem turn_list {P : Program} {w : World} {K : PySem.W.Frag} {tg : Expr} (a it : Addr) : Turn P w K tg (Itl K a) [it] it (fun i h => h.IsListIter it a i) where
  mem := by simp
  obj := fun i h st b hb => by
    have e : b = it := by simpa using hb
    subst e
    obtain ⟨o, e, c, d⟩ := st
    exact ⟨o, e, fun v z => by rw [d] at z; cases z⟩
  keep := fun i h h' st k => st.at fun o e => k it (by simp) o e
  item := by
    intro X hP hw hK hc i pins s σ H E I hf st hg
    subst hP hw hK
    obtain ⟨xs, x, hq, hx⟩ := hg
    obtain ⟨its, rv, p, hz⟩ := I.list hq
    obtain ⟨u, hu, ru⟩ := rv.get hx
    obtain ⟨f0, f1, f2, f3, f4, f5⟩ := hf it (by simp)
    refine wpAny_pyNext_list_item st p.isList (x := u) (by simpa using hu) fun h' st' sb => ?_
    have I1 : Inv X pins σ H { s with heap := h' } := I.turned (t' := s.toks) (fun b o hb e => (sb.2 b hb).trans e) f0 f1 f3 f4 f5
    obtain ⟨o, e, c, d⟩ := id st'
    exact ⟨u, rfl, go_of (s := { s with heap := h' }) e c d (by decide) ⟨x, H, I1, ru, ⟨rfl, fun ys hy => by rw [I.list_inj hy hq]; exact hx⟩, st', fun b hb => (hf b hb).1⟩⟩
  done := by
    intro X hP hw hK hc i pins s σ H E I hf st hg
    subst hP hw hK
    obtain ⟨xs, hq, hx⟩ := hg
    obtain ⟨its, rv, p, hz⟩ := I.list hq
    obtain ⟨f0, f1, f2, f3, f4, f5⟩ := hf it (by simp)
    have hl := rv.length
    exact wpAny_pyNext_list_end (I.ok.hd hc) st p.isList (by simp; lia) fun h' eb => ⟨rfl, I.turned (t' := s.toks) (fun b o hb e => eb b o hb e) f0 f1 f3 f4 f5⟩
  self := fun _ _ _ _ _ st h => wpAny_pyIter_listiter st h
theorem turn_tuple {P : Program} {w : World} {K : PySem.W.Frag} {tg : Expr} (a it : Addr) : Turn P w K tg (Itt K a) [it] it (fun i h => h.IsTupleIter it a i) where
  mem := by simp
  obj := fun i h st b hb => by
    have e : b = it := by simpa using hb
    subst e
    obtain ⟨o, e, c, d⟩ := st
    exact ⟨o, e, fun v z => by rw [d] at z; cases z⟩
  keep := fun i h h' st k => st.at fun o e => k it (by simp) o e
  item := by
    intro X hP hw hK hc i pins s σ H E I hf st hg
    subst hP hw hK
    obtain ⟨xs, x, hq, hx⟩ := hg
    obtain ⟨its, rv, p, hz⟩ := I.tuple hq
    obtain ⟨u, hu, ru⟩ := rv.get hx
    obtain ⟨f0, f1, f2, f3, f4, f5⟩ := hf it (by simp)
    refine wpAny_pyNext_tuple_item st (show s.heap.IsTuple a its.toArray from p) (x := u) (by simpa using hu) fun h' st' sb => ?_
    have I1 : Inv X pins σ H { s with heap := h' } := I.turned (t' := s.toks) (fun b o hb e => (sb.2 b hb).trans e) f0 f1 f3 f4 f5
    obtain ⟨o, e, c, d⟩ := id st'
    exact ⟨u, rfl, go_of (s := { s with heap := h' }) e c d (by decide) ⟨x, H, I1, ru, ⟨rfl, fun ys hy => by rw [I.tuple_inj hy hq]; exact hx⟩, st', fun b hb => (hf b hb).1⟩⟩
  done := by
    intro X hP hw hK hc i pins s σ H E I hf st hg
    subst hP hw hK
    obtain ⟨xs, hq, hx⟩ := hg
    obtain ⟨its, rv, p, hz⟩ := I.tuple hq
    obtain ⟨f0, f1, f2, f3, f4, f5⟩ := hf it (by simp)
    have hl := rv.length
    exact wpAny_pyNext_tuple_end (I.ok.hd hc) st (show s.heap.IsTuple a its.toArray from p) (by simp; lia) fun h' eb => ⟨rfl, I.turned (t' := s.toks) (fun b o hb e => eb b o hb e) f0 f1 f3 f4 f5⟩
  self := fun _ _ _ _ _ st h => wpAny_pyIter_tupleiter st h
theorem turn_range {P : Program} {w : World} {K : PySem.W.Frag} {tg : Expr} (it : Addr) (lo : Int) (n : Nat) : Turn P w K tg (Itr lo n) [it] it (fun i h => IsRangeIter h it (lo + (i : Nat) * 1) ((n : Int) - (i : Nat)) 1) where
  mem := by simp
  obj := fun i h st b hb => by
    have e : b = it := by simpa using hb
    subst e
    exact ⟨_, st, fun v z => by
      have z' : Data.fields _ = Data.cell v := z
      cases z'⟩
  keep := fun i h h' st k => k it (by simp) _ st
  item := by
    intro X hP hw hK hc i pins s σ H E I hf st hg
    subst hP hw hK
    obtain ⟨f0, f1, f2, f3, f4, f5⟩ := hf it (by simp)
    have W := Walks.range (prog := X.prog) (w := X.w) (I.ok.hd hc) it lo 1 n
    refine W.item i s _ _ hg st fun v h' tk hv st' kk => ?_
    obtain ⟨t, rfl⟩ := hv
    have I1 : Inv X pins σ H { s with heap := h', toks := tk } := I.turned (fun b o hb e => kk b o (by simpa using hb) e) f0 f1 f3 f4 f5
    refine ⟨_, rfl, go_of (s := { s with heap := h', toks := tk }) (n := "range_iterator") st' rfl rfl (by decide) ⟨.int (lo + i), H, I1, ⟨t, ?_⟩, ⟨rfl, rfl⟩, st', fun b hb => (hf b hb).1⟩⟩
    rw [Int.mul_one]
  done := by
    intro X hP hw hK hc i pins s σ H E I hf st hg
    subst hP hw hK
    obtain ⟨f0, f1, f2, f3, f4, f5⟩ := hf it (by simp)
    exact wpAny_pyNext_range_end (I.ok.hd hc) st (by have : n <= i := hg; lia) fun h' eb => ⟨rfl, I.turned (t' := s.toks) (fun b o hb e => eb b o hb e) f0 f1 f3 f4 f5⟩
  self := fun _ _ _ _ _ st h => wpAny_pyIter_rangeiter st h
section
variable {X : Cx} {tg : Expr}
def iList (K : PySem.W.Frag) (tl : TE) : TI := fun σ H R => tl σ H fun x H1 => ∃ a, x = .ref a /\ (∃ xs, SqL K H1 a xs) /\ R (Itl K a) H1
def iTup (K : PySem.W.Frag) (tl : TE) : TI := fun σ H R => tl σ H fun x H1 => ∃ a, x = .ref a /\ (∃ xs, SqT K H1 a xs) /\ R (Itt K a) H1
theorem pi_list {l : Expr} {tl : TE} (hl : PE X l tl) : PI X tg l (iList X.K tl) := by
  intro pins s σ H R I h
  refine thn (hl pins s σ H _ I h) fun v s1 ⟨x, H1, I1, r1, q1⟩ => ?_
  obtain ⟨a, e, ⟨xs, hq⟩, q⟩ := q1
  subst e
  cases r1
  obtain ⟨its, rv, p, hz⟩ := I1.list hq
  refine wpAny_pyIter_list p.isList ?_
  refine ⟨s1.heap.objs.size, [s1.heap.objs.size], _, _, H1, rfl, I1.kept (t' := s1.toks) fun b o e => Heap.get?_push_of_some _ e, turn_list a _, ⟨_, Heap.get?_push_size _ rfl, rfl, rfl⟩, fun b hb => ?_, q⟩
  have e : b = s1.heap.objs.size := by simpa using hb
  subst e
  exact I1.fpOk (Nat.le_refl _) (I1.hok.fresh (Nat.le_refl _))
theorem pi_tup {l : Expr} {tl : TE} (hl : PE X l tl) : PI X tg l (iTup X.K tl) := by
  intro pins s σ H R I h
  refine thn (hl pins s σ H _ I h) fun v s1 ⟨x, H1, I1, r1, q1⟩ => ?_
  obtain ⟨a, e, ⟨xs, hq⟩, q⟩ := q1
  subst e
  cases r1
  obtain ⟨its, rv, p, hz⟩ := I1.tuple hq
  refine wpAny_pyIter_tuple (show s1.heap.IsTuple a its.toArray from p) ?_
  refine ⟨s1.heap.objs.size, [s1.heap.objs.size], _, _, H1, rfl, I1.kept (t' := s1.toks) fun b o e => Heap.get?_push_of_some _ e, turn_tuple a _, ⟨_, Heap.get?_push_size _ rfl, rfl, rfl⟩, fun b hb => ?_, q⟩
  have e : b = s1.heap.objs.size := by simpa using hb
  subst e
  exact I1.fpOk (Nat.le_refl _) (I1.hok.fresh (Nat.le_refl _))
theorem range_it {pins : List (Addr × Obj)} {σ : St} {H : Hp} {s : Shared} {R : It -> Hp -> Prop} {E : Value -> Shared -> Prop} {lo hi : Int} {t u v : Tok} {tk : Nat} (I : Inv X pins σ H s) (h1 : -(2 ^ 62) <= lo) (h2 : lo < 2 ^ 62) (h3 : -(2 ^ 62) <= hi) (h4 : hi < 2 ^ 62)
    (q : R (Itr lo (hi - lo).toNat) H) : wpAny (model X.prog X.w) X.A (pyIter (.ref s.heap.objs.size)) (PIE X pins σ tg R) E { s with heap := s.heap.push { cls := .type "range", data := .fields #[.int lo t, .int hi u, .int 1 v] }, toks := tk } := by
  refine wpAny_pyIter_range (IsRange.new ..) (small_one h1 h2 h3 h4) ?_
  have I1 : Inv X pins σ H { s with heap := s.heap.push { cls := .type "range", data := .fields #[.int lo t, .int hi u, .int 1 v] }, toks := tk } := I.kept fun b o e => Heap.get?_push_of_some _ e
  refine ⟨(s.heap.push { cls := .type "range", data := .fields #[.int lo t, .int hi u, .int 1 v] }).objs.size, [(s.heap.push { cls := .type "range", data := .fields #[.int lo t, .int hi u, .int 1 v] }).objs.size], _, _, H, rfl,
    I1.kept (t' := tk) fun b o e => Heap.get?_push_of_some _ e, turn_range _ lo (hi - lo).toNat, ?_, fun b hb => ?_, q⟩
  · have e1 : lo + ((0 : Nat) : Int) * 1 = lo := by simp
    have e2 : (((hi - lo).toNat : Nat) : Int) - ((0 : Nat) : Int) = Builtin.Range.rangeSize lo hi 1 := by rw [rangeSize_one]; split <;> lia
    show IsRangeIter _ _ (lo + ((0 : Nat) : Int) * 1) ((((hi - lo).toNat : Nat) : Int) - ((0 : Nat) : Int)) 1
    rw [e1, e2]
    exact Heap.get?_push_size _ rfl
  · have e : b = (s.heap.push { cls := .type "range", data := .fields #[.int lo t, .int hi u, .int 1 v] }).objs.size := by simpa using hb
    subst e
    exact I1.fpOk (Nat.le_refl _) (I1.hok.fresh (Nat.le_refl _))
def iRng1 (ta : TA) : TI := fun σ H R => ta σ H fun vs H1 => ∃ j : Int, vs = [.int j] /\ -(2 ^ 62) <= j /\ j < 2 ^ 62 /\ R (Itr 0 j.toNat) H1
def iRng2 (ta : TA) : TI := fun σ H R => ta σ H fun vs H1 => ∃ i j : Int, vs = [.int i, .int j] /\ (-(2 ^ 62) <= i /\ i < 2 ^ 62 /\ -(2 ^ 62) <= j /\ j < 2 ^ 62) /\ R (Itr i (j - i).toNat) H1
theorem pi_range1 {a : Expr} {ta : TA} {p pos : Pos} (hg : Gl X "range") (hm : X.mg "range" = none) (ha : PA X [a] ta) (hs : starEach [a] X.env = [(false, eval a X.env)] := by rfl) : PI X tg (.Call (.Name "range" p) [a] [] pos) (iRng1 ta) := by
  intro pins s σ H R I h
  refine Call_ (ld_blt I hg hm boot_range (PyProof.Rows.callWith_type1 (thn (ha pos pins s σ H _ I h) fun us s1 ⟨vs, H1, I1, r1, q1⟩ => ?_) hs rfl))
  obtain ⟨j, e, q1, q2, q⟩ := q1
  subst e
  cases r1 with
  | cons r rr =>
    cases rr
    obtain ⟨t, rfl⟩ := r
    exact call_range_1 (range_it I1 (by lia) (by lia) q1 q2 (by simpa using q))
theorem pi_range2 {a b : Expr} {ta : TA} {p pos : Pos} (hg : Gl X "range") (hm : X.mg "range" = none) (ha : PA X [a, b] ta) (hs : starEach [a, b] X.env = [(false, eval a X.env), (false, eval b X.env)] := by rfl) (hs2 : starEach [b] X.env = [(false, eval b X.env)] := by rfl) :
    PI X tg (.Call (.Name "range" p) [a, b] [] pos) (iRng2 ta) := by
  intro pins s σ H R I h
  refine Call_ (ld_blt I hg hm boot_range (PyProof.Rows.callWith_type1 (thn (ha pos pins s σ H _ I h) fun us s1 ⟨vs, H1, I1, r1, q1⟩ => ?_) (by rw [hs, hs2]) (by rw [hs2]; rfl)))
  obtain ⟨i, j, e, ⟨q1, q2, q3, q4⟩, q⟩ := q1
  subst e
  cases r1 with
  | cons r rr =>
    cases rr with
    | cons r' rr =>
      cases rr
      obtain ⟨t, rfl⟩ := r
      obtain ⟨t', rfl⟩ := r'
      exact call_range_2 (range_it I1 q1 q2 q3 q4 q)
def tFor (wi : TI) (g : TG) (tb : TS) : TS := fun D σ H => wi σ H fun J H1 => ∃ W : Nat -> Nat -> St -> Hp -> Prop, (∃ m, W 0 m σ H1) /\ ∀ i m σ H, W i m σ H ->
  (J.stop i H /\ D.nx σ H) \/ (J.go i H /\ ∃ N : St -> Hp -> Prop, (∀ σ' H', N σ' H' -> ∃ m', m' < m /\ W (i + 1) m' σ' H') /\ ∀ x H', J.yld i H x H' -> g x σ H' fun σ2 H2 => tb { D with nx := N, ct := N, bk := D.nx } σ2 H2)
def pinsAt (fp : List Addr) (h : Heap) : List (Addr × Obj) := fp.filterMap fun b => (h.get? b).map fun o => (b, o)
theorem mem_pinsAt {fp : List Addr} {h : Heap} {b : Addr} {o : Obj} (hb : b ∈ fp) (e : h.get? b = some o) : (b, o) ∈ pinsAt fp h := List.mem_filterMap.mpr ⟨b, hb, by rw [e]; rfl⟩
theorem of_pinsAt {fp : List Addr} {h : Heap} {p : Addr × Obj} (hp : p ∈ pinsAt fp h) : p.1 ∈ fp /\ h.get? p.1 = some p.2 := by
  obtain ⟨b, hb, e⟩ := List.mem_filterMap.mp hp
  cases q : h.get? b with
  | none => rw [q] at e; cases e
  | some o =>
    rw [q] at e
    have e' : (b, o) = p := Option.some.inj e
    subst e'
    exact ⟨hb, q⟩
theorem Inv.pinned {pins : List (Addr × Obj)} {σ : St} {H : Hp} {s : Shared} {fp : List Addr} (I : Inv X pins σ H s) (hf : ∀ b ∈ fp, FpOk X pins H b) (ho : ∀ b ∈ fp, ∃ o, s.heap.get? b = some o /\ ∀ v, o.data ≠ .cell v) : Inv X (pins ++ pinsAt fp s.heap) σ H s :=
  I.pins_of fun p hp => (List.mem_append.mp hp).elim (fun z => I.pin p (List.mem_append_right _ z)) fun z => by
    obtain ⟨hb, e⟩ := of_pinsAt z
    obtain ⟨f0, f1, f2, _⟩ := hf p.1 hb
    obtain ⟨o, e', d⟩ := ho p.1 hb
    rw [e] at e'; cases e'
    exact ⟨e, f0, f1, f2, d⟩
theorem Inv.unpinned {pins pl : List (Addr × Obj)} {σ : St} {H : Hp} {s : Shared} (I : Inv X (pins ++ pl) σ H s) : Inv X pins σ H s := I.pins_of fun p hp => I.pin p (List.mem_append_right _ (List.mem_append_left _ hp))
theorem ps_for {iter : Expr} {body : List Stmt} {wi : TI} {g : TG} {tb : TS} {pos : Pos} (hp : PassesOwn (model X.prog X.w) X.A X.env X.xe) (hc : X.calm = true) (hi : PI X tg iter wi) (hg : PG X tg g) (hb : PSs X body tb)
    (hs : ∀ x, foldedSetIterable iter X.env x = pure x := by intro _; rfl) : PS X (.For tg iter body [] pos) (tFor wi g tb) := by
  intro pins s σ H D I h
  refine wpAny_For (thn (hi pins s σ H _ I h) fun v s1 h1 => thn h1 fun itv s2 h2 => ?_) hs
  obtain ⟨it, fp, tn, J, H2, e, I2, T, st2, f2, W, ⟨m0, w0⟩, turn⟩ := h2
  subst e
  have stat : ∀ {H' : Hp}, (∀ b ∈ fp, H' b = none) -> ∀ b ∈ fp, FpOk X pins H' b := fun hn b hb => ⟨hn b hb, (f2 b hb).2⟩
  refine codeAny_forLoop_any (fun n s' => ∃ i σ' H', Inv X pins σ' H' s' /\ tn i s'.heap /\ (∀ b ∈ fp, H' b = none) /\ W i n σ' H') ?_ m0 ⟨0, σ, H2, I2, st2, fun b hb => (f2 b hb).1, w0⟩
  rintro n s3 ⟨i, σ3, H3, I3, st3, fr3, w3⟩
  rcases turn i n σ3 H3 w3 with ⟨stop, qn⟩ | ⟨go, N, hN, step⟩
  · refine wpAny_passesOwn hp (thn (T.done X rfl rfl rfl hc i pins s3 σ3 H3 X.xe I3 (stat fr3) st3 stop) fun r s4 ⟨hr, I4⟩ => ?_)
    subst hr
    exact wpAny_execs_nil ⟨σ3, H3, I4, qn⟩
  · refine wpAny_passesOwn hp (thn (T.item X rfl rfl rfl hc i pins s3 σ3 H3 X.xe I3 (stat fr3) st3 go) fun r s4 ⟨u, hr, h4⟩ => ?_)
    subst hr
    refine wpAny_passesOwn hp (thn h4 fun _ s5 ⟨x, H5, I5, r5, y5, st5, fr5⟩ => ?_)
    have I5' := I5.pinned (stat fr5) (T.obj _ _ st5)
    refine wpAny_passesOwn hp (thn (hg _ s5 σ3 H5 x u _ I5' r5 (step x H5 y5)) fun _ s6 ⟨σ6, H6, I6, q6⟩ => ?_)
    refine wpAny_passesOwn hp (thn (hb _ s6 σ6 H6 _ I6 q6) fun f s7 q7 => ?_)
    have again : ∀ {σ7 : St} {H7 : Hp}, Inv X (pins ++ pinsAt fp s5.heap) σ7 H7 s7 -> N σ7 H7 -> ∃ m, m < n /\ ∃ i σ' H', Inv X pins σ' H' s7 /\ tn i s7.heap /\ (∀ b ∈ fp, H' b = none) /\ W i m σ' H' := fun {σ7 H7} I7 n7 => by
      obtain ⟨m', hm, w7⟩ := hN σ7 H7 n7
      refine ⟨m', hm, i + 1, σ7, H7, I7.unpinned, T.keep _ _ _ st5 fun b hb o e => (I7.pin (b, o) (List.mem_append_right _ (List.mem_append_right _ (mem_pinsAt hb e)))).1, fun b hb => ?_, w7⟩
      obtain ⟨o, e, d⟩ := T.obj _ _ st5 b hb
      exact (I7.pin (b, o) (List.mem_append_right _ (List.mem_append_right _ (mem_pinsAt hb e)))).2.1
    cases f with
    | next => obtain ⟨σ7, H7, I7, n7⟩ := q7; exact again I7 n7
    | cont => obtain ⟨σ7, H7, I7, n7⟩ := q7; exact again I7 n7
    | brk => obtain ⟨σ7, H7, I7, q7⟩ := q7; exact ⟨σ7, H7, I7.unpinned, q7⟩
    | ret v => obtain ⟨x7, σ7, H7, I7, r7, q7⟩ := q7; exact ⟨x7, σ7, H7, I7.unpinned, r7, q7⟩
end
theorem for_list {K : PySem.W.Frag} {a : Addr} {xs : List V} {g : TG} {tb : TS} {D : Ends} {σ : St} {H : Hp} (Pv : Nat -> St -> Hp -> Prop) (h0 : Pv 0 σ H) (hl : ∀ i σ H, i <= xs.length -> Pv i σ H -> SqL K H a xs)
    (hs : ∀ i x σ H, xs[i]? = some x -> Pv i σ H -> g x σ H fun σ2 H2 => tb { D with nx := Pv (i + 1), ct := Pv (i + 1), bk := D.nx } σ2 H2) (hd : ∀ σ H, Pv xs.length σ H -> D.nx σ H) :
    ∃ W : Nat -> Nat -> St -> Hp -> Prop, (∃ m, W 0 m σ H) /\ ∀ i m σ H, W i m σ H ->
      ((Itl K a).stop i H /\ D.nx σ H) \/ ((Itl K a).go i H /\ ∃ N : St -> Hp -> Prop, (∀ σ' H', N σ' H' -> ∃ m', m' < m /\ W (i + 1) m' σ' H') /\ ∀ x H', (Itl K a).yld i H x H' -> g x σ H' fun σ2 H2 => tb { D with nx := N, ct := N, bk := D.nx } σ2 H2) := by
  refine ⟨fun i m σ H => m = xs.length - i /\ i <= xs.length /\ Pv i σ H, ⟨xs.length, by simp, Nat.zero_le _, h0⟩, ?_⟩
  rintro i m σ H ⟨rfl, hi, p⟩
  have q := hl i σ H hi p
  by_cases hlt : i < xs.length
  · refine .inr ⟨⟨xs, xs[i], q, by simp [hlt]⟩, Pv (i + 1), fun σ' H' p' => ⟨xs.length - (i + 1), by lia, rfl, hlt, p'⟩, fun x H' y => ?_⟩
    obtain ⟨e, y⟩ := y
    subst e
    exact hs i x σ _ (y xs q) p
  · have e : i = xs.length := by lia
    subst e
    exact .inl ⟨⟨xs, q, Nat.le_refl _⟩, hd σ H p⟩
theorem for_tup {K : PySem.W.Frag} {a : Addr} {xs : List V} {g : TG} {tb : TS} {D : Ends} {σ : St} {H : Hp} (Pv : Nat -> St -> Hp -> Prop) (h0 : Pv 0 σ H) (hl : ∀ i σ H, i <= xs.length -> Pv i σ H -> SqT K H a xs)
    (hs : ∀ i x σ H, xs[i]? = some x -> Pv i σ H -> g x σ H fun σ2 H2 => tb { D with nx := Pv (i + 1), ct := Pv (i + 1), bk := D.nx } σ2 H2) (hd : ∀ σ H, Pv xs.length σ H -> D.nx σ H) :
    ∃ W : Nat -> Nat -> St -> Hp -> Prop, (∃ m, W 0 m σ H) /\ ∀ i m σ H, W i m σ H ->
      ((Itt K a).stop i H /\ D.nx σ H) \/ ((Itt K a).go i H /\ ∃ N : St -> Hp -> Prop, (∀ σ' H', N σ' H' -> ∃ m', m' < m /\ W (i + 1) m' σ' H') /\ ∀ x H', (Itt K a).yld i H x H' -> g x σ H' fun σ2 H2 => tb { D with nx := N, ct := N, bk := D.nx } σ2 H2) := by
  refine ⟨fun i m σ H => m = xs.length - i /\ i <= xs.length /\ Pv i σ H, ⟨xs.length, by simp, Nat.zero_le _, h0⟩, ?_⟩
  rintro i m σ H ⟨rfl, hi, p⟩
  have q := hl i σ H hi p
  by_cases hlt : i < xs.length
  · refine .inr ⟨⟨xs, xs[i], q, by simp [hlt]⟩, Pv (i + 1), fun σ' H' p' => ⟨xs.length - (i + 1), by lia, rfl, hlt, p'⟩, fun x H' y => ?_⟩
    obtain ⟨e, y⟩ := y
    subst e
    exact hs i x σ _ (y xs q) p
  · have e : i = xs.length := by lia
    subst e
    exact .inl ⟨⟨xs, q, Nat.le_refl _⟩, hd σ H p⟩
theorem for_range {lo : Int} {n : Nat} {g : TG} {tb : TS} {D : Ends} {σ : St} {H : Hp} (Pv : Nat -> St -> Hp -> Prop) (h0 : Pv 0 σ H)
    (hs : ∀ i σ H, i < n -> Pv i σ H -> g (.int (lo + i)) σ H fun σ2 H2 => tb { D with nx := Pv (i + 1), ct := Pv (i + 1), bk := D.nx } σ2 H2) (hd : ∀ σ H, Pv n σ H -> D.nx σ H) :
    ∃ W : Nat -> Nat -> St -> Hp -> Prop, (∃ m, W 0 m σ H) /\ ∀ i m σ H, W i m σ H ->
      ((Itr lo n).stop i H /\ D.nx σ H) \/ ((Itr lo n).go i H /\ ∃ N : St -> Hp -> Prop, (∀ σ' H', N σ' H' -> ∃ m', m' < m /\ W (i + 1) m' σ' H') /\ ∀ x H', (Itr lo n).yld i H x H' -> g x σ H' fun σ2 H2 => tb { D with nx := N, ct := N, bk := D.nx } σ2 H2) := by
  refine ⟨fun i m σ H => m = n - i /\ i <= n /\ Pv i σ H, ⟨n, by simp, Nat.zero_le _, h0⟩, ?_⟩
  rintro i m σ H ⟨rfl, hi, p⟩
  by_cases hlt : i < n
  · refine .inr ⟨hlt, Pv (i + 1), fun σ' H' p' => ⟨n - (i + 1), by lia, rfl, hlt, p'⟩, fun x H' y => ?_⟩
    obtain ⟨e, y⟩ := y
    subst e y
    exact hs i σ _ hlt p
  · have e : i = n := by lia
    subst e
    exact .inl ⟨Nat.le_refl _, hd σ H p⟩
abbrev R2 := V -> V -> Hp -> VK -> Prop
def OpR (X : Cx) (f : Value -> Value -> Sem Value) (r : R2) : Prop :=
  ∀ (pins : List (Addr × Obj)) (s : Shared) (σ : St) (H : Hp) (x y : V) (v u : Value) (Q : VK), Inv X pins σ H s -> RelV x v -> RelV y u -> r x y H Q ->
    wpAny (model X.prog X.w) X.A (f v u) (EP X pins σ Q) X.xe s
def UnR (X : Cx) (f : Value -> Sem Value) (r : V -> Hp -> VK -> Prop) : Prop :=
  ∀ (pins : List (Addr × Obj)) (s : Shared) (σ : St) (H : Hp) (x : V) (v : Value) (Q : VK), Inv X pins σ H s -> RelV x v -> r x H Q ->
    wpAny (model X.prog X.w) X.A (f v) (EP X pins σ Q) X.xe s
def CallR (X : Cx) (f : Value) (r : List V -> Hp -> VK -> Prop) : Prop :=
  ∀ (pins : List (Addr × Obj)) (s : Shared) (σ : St) (H : Hp) (xs : List V) (us : List Value) (Q : VK), Inv X pins σ H s -> Vals xs us -> r xs H Q ->
    wpAny (model X.prog X.w) X.A (call f us) (EP X pins σ Q) X.xe s
def tOp (r : R2) (ta tb : TE) : TE := fun σ H Q => ta σ H fun x H1 => tb σ H1 fun y H2 => r x y H2 Q
def tUn (r : V -> Hp -> VK -> Prop) (ta : TE) : TE := fun σ H Q => ta σ H fun x H1 => r x H1 Q
def rI (C : Int -> Int -> Prop) (g : Int -> Int -> V) : R2 := fun x y H Q => ∃ i j, x = .int i /\ y = .int j /\ C i j /\ Q (g i j) H
def rI0 (g : Int -> Int -> V) : R2 := fun x y H Q => ∃ i j, x = .int i /\ y = .int j /\ Q (g i j) H
def rU (g : Int -> V) : V -> Hp -> VK -> Prop := fun x H Q => ∃ i, x = .int i /\ Q (g i) H
section
variable {X : Cx} {a b c : Expr} {ta tb tc : TE} {pos : Pos}
theorem binT (ha : PE X a ta) (hb : PE X b tb) {pins : List (Addr × Obj)} {s : Shared} {σ : St} {H : Hp} {R : V -> V -> Hp -> Prop} (I : Inv X pins σ H s)
    (h : ta σ H fun x H1 => tb σ H1 fun y H2 => R x y H2) {Q : Value -> Shared -> Prop} {f : Value -> Value -> Sem Value}
    (hf : ∀ v u s2 x y H2, Inv X pins σ H2 s2 -> RelV x v -> RelV y u -> R x y H2 -> wpAny (model X.prog X.w) X.A (f v u) Q X.xe s2) :
    wpAny (model X.prog X.w) X.A (eval a X.env) (fun v s₁ => wpAny (model X.prog X.w) X.A (eval b X.env) (fun u s₂ => wpAny (model X.prog X.w) X.A (f v u) Q X.xe s₂) X.xe s₁) X.xe s := by
  refine thn (ha pins s σ H _ I h) fun v s1 ⟨x, H1, I1, r1, q1⟩ => ?_
  refine thn (hb pins s1 σ H1 _ I1 q1) fun u s2 ⟨y, H2, I2, r2, q2⟩ => ?_
  exact hf v u s2 x y H2 I2 r1 r2 q2
theorem pe_op {op : Operator} {r : R2} (ho : OpR X (binaryOp op) r) (ha : PE X a ta) (hb : PE X b tb) : PE X (.BinOp a op b pos) (tOp r ta tb) := by
  intro pins s σ H Q I h
  exact wpAny_BinOp (binT ha hb I h fun v u s2 x y H2 I2 rx ry q => ho pins s2 σ H2 x y v u Q I2 rx ry q)
theorem pe_un {op : UnaryOp} {r : V -> Hp -> VK -> Prop} (ho : UnR X (unaryOp op) r) (ha : PE X a ta) : PE X (.UnaryOp op a pos) (tUn r ta) := by
  intro pins s σ H Q I h
  exact UnaryOp_ (thn (ha pins s σ H _ I h) fun v s1 ⟨x, H1, I1, r1, q1⟩ => ho pins s1 σ H1 x v Q I1 r1 q1)
theorem opI {f : Value -> Value -> Sem Value} {C : Int -> Int -> Prop} {g : Int -> Int -> Int}
    (rule : ∀ (i j : Int) (t u : Tok) (s : Shared) (Q : Value -> Shared -> Prop) (E : Value -> Shared -> Prop), C i j -> Q (.int (g i j) s.toks) { s with toks := s.toks + 1 } -> wpAny (model X.prog X.w) X.A (f (.int i t) (.int j u)) Q E s) :
    OpR X f (rI C fun i j => .int (g i j)) := by
  intro pins s σ H x y v u Q I rx ry h
  obtain ⟨i, j, rfl, rfl, hc, q⟩ := h
  obtain ⟨t, rfl⟩ := rx
  obtain ⟨t', rfl⟩ := ry
  exact rule i j t t' s _ _ hc ⟨.int (g i j), H, I.tok _, ⟨_, rfl⟩, q⟩
theorem opI0 {f : Value -> Value -> Sem Value} {g : Int -> Int -> Int}
    (rule : ∀ (i j : Int) (t u : Tok) (s : Shared) (Q : Value -> Shared -> Prop) (E : Value -> Shared -> Prop), Q (.int (g i j) s.toks) { s with toks := s.toks + 1 } -> wpAny (model X.prog X.w) X.A (f (.int i t) (.int j u)) Q E s) :
    OpR X f (rI0 fun i j => .int (g i j)) := by
  intro pins s σ H x y v u Q I rx ry h
  obtain ⟨i, j, rfl, rfl, q⟩ := h
  obtain ⟨t, rfl⟩ := rx
  obtain ⟨t', rfl⟩ := ry
  exact rule i j t t' s _ _ ⟨.int (g i j), H, I.tok _, ⟨_, rfl⟩, q⟩
theorem opB0 {f : Value -> Value -> Sem Value} {g : Int -> Int -> Bool}
    (rule : ∀ (i j : Int) (t u : Tok) (s : Shared) (Q : Value -> Shared -> Prop) (E : Value -> Shared -> Prop), Q (.bool (g i j)) s -> wpAny (model X.prog X.w) X.A (f (.int i t) (.int j u)) Q E s) :
    OpR X f (rI0 fun i j => .bl (g i j)) := by
  intro pins s σ H x y v u Q I rx ry h
  obtain ⟨i, j, rfl, rfl, q⟩ := h
  obtain ⟨t, rfl⟩ := rx
  obtain ⟨t', rfl⟩ := ry
  exact rule i j t t' s _ _ ⟨.bl (g i j), H, I, rfl, q⟩
def CDiv (i j : Int) : Prop := 0 < j /\ j < 1073741824
def CPow (i j : Int) : Prop := 0 <= j /\ j <= 1000000 /\ i.natAbs < 2 ^ 64
def CMul (i j : Int) : Prop := (-(2 ^ 64) < i /\ i < 2 ^ 64) \/ (-(2 ^ 64) < j /\ j < 2 ^ 64)
theorem CMul.ok {i j : Int} (h : CMul i j) : IntMulOk i j := by
  rcases h with ⟨h1, h2⟩ | ⟨h1, h2⟩
  · exact .of_left (intBits_le_64 h1 h2)
  · exact .of_right (intBits_le_64 h1 h2)
theorem op_add : OpR X (binaryOp .Add) (rI0 fun i j => .int (i + j)) := opI0 fun _ _ _ _ _ _ _ q => add_int q
theorem op_sub : OpR X (binaryOp .Sub) (rI0 fun i j => .int (i - j)) := opI0 fun _ _ _ _ _ _ _ q => sub_int q
theorem op_mul : OpR X (binaryOp .Mult) (rI CMul fun i j => .int (i * j)) := opI fun _ _ _ _ _ _ _ hc q => mul_int q hc.ok
theorem op_fdiv : OpR X (binaryOp .FloorDiv) (rI CDiv fun i j => .int (i / j)) := opI fun i j _ _ _ _ _ hc q => by
  have h1 : (0 : Int) < j := hc.1
  have h2 : j < 1073741824 := hc.2
  exact floordiv_int (by lia) (by rw [Int.fdiv_eq_ediv_of_nonneg i (by lia)]; exact q) (.inl (PyProof.noPylong_small (by lia)))
theorem op_mod : OpR X (binaryOp .Mod) (rI (fun _ j => 0 < j) fun i j => .int (i % j)) := opI fun i j _ _ _ _ _ hc q => by
  have h1 : (0 : Int) < j := hc
  exact mod_int' (by lia) (by rw [Int.fmod_eq_emod_of_nonneg i (by lia)]; exact q)
theorem op_pow : OpR X (binaryOp .Pow) (rI CPow fun i j => .int (i ^ j.toNat)) := opI fun _ _ _ _ _ _ _ hc q => pow_int_small hc.1 hc.2.1 hc.2.2 q
theorem unI {f : Value -> Sem Value} {g : Int -> Int}
    (rule : ∀ (i : Int) (t : Tok) (s : Shared) (Q : Value -> Shared -> Prop) (E : Value -> Shared -> Prop), Q (.int (g i) s.toks) { s with toks := s.toks + 1 } -> wpAny (model X.prog X.w) X.A (f (.int i t)) Q E s) :
    UnR X f (rU fun i => .int (g i)) := by
  intro pins s σ H x v Q I rx h
  obtain ⟨i, rfl, q⟩ := h
  obtain ⟨t, rfl⟩ := rx
  exact rule i t s _ _ ⟨.int (g i), H, I.tok _, ⟨_, rfl⟩, q⟩
theorem un_neg : UnR X (unaryOp .USub) (rU fun i => .int (-i)) := unI fun _ _ _ _ _ q => neg_int q
end
def scal : V -> V -> Bool
  | .non, .non => true | .non, .int _ => true | .int _, .non => true | .non, .bl _ => true | .bl _, .non => true | .non, .str _ => true | .str _, .non => true
  | .int _, .int _ => true | .bl _, .bl _ => true | .str _, .str _ => true | .byt _, .byt _ => true
  | .int _, .str _ => true | .str _, .int _ => true | .bl _, .str _ => true | .str _, .bl _ => true
  | _, _ => false
def rEq : R2 := fun x y H Q => scal x y = true /\ Q (.bl (decide (x = y))) H
def rNe : R2 := fun x y H Q => scal x y = true /\ Q (.bl (!decide (x = y))) H
theorem dec_int {i j : Int} : decide (V.int i = V.int j) = (i == j) := by
  rw [Bool.eq_iff_iff]
  simp
theorem dec_bl {i j : Bool} : decide (V.bl i = V.bl j) = (i == j) := by
  rw [Bool.eq_iff_iff]
  simp
theorem dec_str {i j : Str} : decide (V.str i = V.str j) = (i == j) := by
  rw [Bool.eq_iff_iff]
  simp
theorem dec_byt {i j : Array UInt8} : decide (V.byt i = V.byt j) = (i.toList == j.toList) := by
  rw [Bool.eq_iff_iff]
  cases i
  cases j
  simp
section
variable {X : Cx} {a b c : Expr} {ta tb tc : TE} {pos : Pos}
theorem fin_bl {pins : List (Addr × Obj)} {σ : St} {H : Hp} {s : Shared} {Q : VK} {k k' : Bool} (I : Inv X pins σ H s) (q : Q (.bl k) H) (e : k = k') : EP X pins σ Q (.bool k') s := by
  subst e
  exact ⟨.bl k, H, I, rfl, q⟩
theorem op_eq : OpR X (compareOp .Eq) rEq := by
  intro pins s σ H x y v u Q I rx ry h
  obtain ⟨hs, q⟩ := h
  cases x with
  | non =>
    cases rx
    cases y with
    | non => cases ry; exact PySem.EqNone.eq_none_none (fin_bl I q (by simp))
    | bl j => cases ry; exact PySem.EqNone.eq_none_bool (fin_bl I q (by simp))
    | int j => obtain ⟨t', rfl⟩ := ry; exact PySem.EqNone.eq_none_int (fin_bl I q (by simp))
    | str j => obtain ⟨t', rfl⟩ := ry; exact PySem.EqNone.eq_none_str (fin_bl I q (by simp))
    | _ => exact absurd (show false = true from hs) Bool.false_ne_true
  | bl i =>
    cases rx
    cases y with
    | non => cases ry; exact PySem.EqNone.eq_bool_none (fin_bl I q (by simp))
    | bl j => cases ry; exact eq_bool (fin_bl I q dec_bl)
    | str j => obtain ⟨t', rfl⟩ := ry; exact PySem.EqMixed.eq_bool_str (fin_bl I q (by simp))
    | _ => exact absurd (show false = true from hs) Bool.false_ne_true
  | int i =>
    obtain ⟨t, rfl⟩ := rx
    cases y with
    | non => cases ry; exact PySem.EqNone.eq_int_none (fin_bl I q (by simp))
    | int j => obtain ⟨t', rfl⟩ := ry; exact eq_int (fin_bl I q dec_int)
    | str j => obtain ⟨t', rfl⟩ := ry; exact PySem.EqMixed.eq_int_str (fin_bl I q (by simp))
    | _ => exact absurd (show false = true from hs) Bool.false_ne_true
  | str i =>
    obtain ⟨t, rfl⟩ := rx
    cases y with
    | non => cases ry; exact PySem.EqNone.eq_str_none (fin_bl I q (by simp))
    | bl j => cases ry; exact PySem.EqMixed.eq_str_bool (fin_bl I q (by simp))
    | int j => obtain ⟨t', rfl⟩ := ry; exact PySem.EqMixed.eq_str_int (fin_bl I q (by simp))
    | str j => obtain ⟨t', rfl⟩ := ry; exact eq_str (fin_bl I q dec_str)
    | _ => exact absurd (show false = true from hs) Bool.false_ne_true
  | byt i =>
    obtain ⟨t, rfl⟩ := rx
    cases y with
    | byt j => obtain ⟨t', rfl⟩ := ry; exact PySem.W.eq_bytes (fin_bl I q dec_byt)
    | _ => exact absurd (show false = true from hs) Bool.false_ne_true
  | _ => cases y <;> exact absurd (show false = true from hs) Bool.false_ne_true
theorem op_ne : OpR X (compareOp .NotEq) rNe := by
  intro pins s σ H x y v u Q I rx ry h
  obtain ⟨hs, q⟩ := h
  cases x with
  | non =>
    cases rx
    cases y with
    | non => cases ry; exact PySem.EqNone.ne_none_none (fin_bl I q (by simp))
    | bl j => cases ry; exact PySem.EqNone.ne_none_bool (fin_bl I q (by simp))
    | int j => obtain ⟨t', rfl⟩ := ry; exact PySem.EqNone.ne_none_int (fin_bl I q (by simp))
    | str j => obtain ⟨t', rfl⟩ := ry; exact PySem.EqNone.ne_none_str (fin_bl I q (by simp))
    | _ => exact absurd (show false = true from hs) Bool.false_ne_true
  | bl i =>
    cases rx
    cases y with
    | non => cases ry; exact PySem.EqNone.ne_bool_none (fin_bl I q (by simp))
    | bl j => cases ry; exact ne_bool (fin_bl I q (congrArg not dec_bl))
    | str j => obtain ⟨t', rfl⟩ := ry; exact PySem.EqMixed.ne_bool_str (fin_bl I q (by simp))
    | _ => exact absurd (show false = true from hs) Bool.false_ne_true
  | int i =>
    obtain ⟨t, rfl⟩ := rx
    cases y with
    | non => cases ry; exact PySem.EqNone.ne_int_none (fin_bl I q (by simp))
    | int j => obtain ⟨t', rfl⟩ := ry; exact ne_int (fin_bl I q (congrArg not dec_int))
    | str j => obtain ⟨t', rfl⟩ := ry; exact PySem.EqMixed.ne_int_str (fin_bl I q (by simp))
    | _ => exact absurd (show false = true from hs) Bool.false_ne_true
  | str i =>
    obtain ⟨t, rfl⟩ := rx
    cases y with
    | non => cases ry; exact PySem.EqNone.ne_str_none (fin_bl I q (by simp))
    | bl j => cases ry; exact PySem.EqMixed.ne_str_bool (fin_bl I q (by simp))
    | int j => obtain ⟨t', rfl⟩ := ry; exact PySem.EqMixed.ne_str_int (fin_bl I q (by simp))
    | str j => obtain ⟨t', rfl⟩ := ry; exact ne_str (fin_bl I q (congrArg not dec_str))
    | _ => exact absurd (show false = true from hs) Bool.false_ne_true
  | byt i =>
    obtain ⟨t, rfl⟩ := rx
    cases y with
    | byt j => obtain ⟨t', rfl⟩ := ry; exact PySem.W.ne_bytes (fin_bl I q (congrArg not dec_byt))
    | _ => exact absurd (show false = true from hs) Bool.false_ne_true
  | _ => cases y <;> exact absurd (show false = true from hs) Bool.false_ne_true
theorem op_lt : OpR X (compareOp .Lt) (rI0 fun i j => .bl (decide (i < j))) := opB0 fun _ _ _ _ _ _ _ q => lt_int q
theorem op_le : OpR X (compareOp .LtE) (rI0 fun i j => .bl (decide (i <= j))) := opB0 fun _ _ _ _ _ _ _ q => le_int q
theorem op_gt : OpR X (compareOp .Gt) (rI0 fun i j => .bl (decide (j < i))) := opB0 fun _ _ _ _ _ _ _ q => gt_int q
theorem op_in_str : OpR X (compareOp .In) (fun x y H Q => ∃ i j, x = .str i /\ y = .str j /\ Q (.bl (!(Builtin.Str.occurrences j i 0 j.length 1).isEmpty)) H) := by
  intro pins s σ H x y v u Q I rx ry h
  obtain ⟨i, j, rfl, rfl, q⟩ := h
  obtain ⟨t, rfl⟩ := rx
  obtain ⟨t', rfl⟩ := ry
  exact in_str (fin_bl I q rfl)
theorem op_isN : OpR X (compareOp .Is) (fun x y H Q => y = .non /\ Q (.bl (decide (x = .non))) H) := by
  intro pins s σ H x y v u Q I rx ry h
  obtain ⟨rfl, q⟩ := h
  cases ry
  refine is_none_gen (fin_bl I q ?_)
  cases x <;> first
    | (cases rx; rfl)
    | (obtain ⟨t, rfl⟩ := rx; rfl)
theorem op_notin_str : OpR X (compareOp .NotIn) (fun x y H Q => ∃ i j, x = .str i /\ y = .str j /\ Q (.bl (!(!(Builtin.Str.occurrences j i 0 j.length 1).isEmpty))) H) := by
  intro pins s σ H x y v u Q I rx ry h
  obtain ⟨i, j, rfl, rfl, q⟩ := h
  obtain ⟨t, rfl⟩ := rx
  obtain ⟨t', rfl⟩ := ry
  exact notIn_str (fin_bl I q rfl)
theorem nomark (b : Expr) {op : CmpOp} (h : op ≠ .In := by decide) (h2 : op ≠ .NotIn := by decide) : behindInMarks op b = false := by
  have e1 : (op == CmpOp.In) = false := by cases op <;> first | rfl | exact absurd rfl h
  have e2 : (op == CmpOp.NotIn) = false := by cases op <;> first | rfl | exact absurd rfl h2
  cases b <;> simp [behindInMarks, e1, e2]
theorem pe_cmpR {op : CmpOp} {r : R2} (ho : OpR X (compareOp op) r) (ha : PE X a ta) (hb : PE X b tb) (hm : behindInMarks op b = false) : PE X (.Compare a [op] [b] pos) (tOp r ta tb) := by
  intro pins s σ H Q I h
  exact wpAny_Compare1 (binT ha hb I h fun v u s2 x y H2 I2 rx ry q => ho pins s2 σ H2 x y v u Q I2 rx ry q) hm
def tTest (t : TE) : TT := fun σ H Q => t σ H fun x H' => ∃ k, x = .bl k /\ Q k H'
theorem pt_cmpR {op : CmpOp} {r : R2} (ho : OpR X (compareOp op) r) (ha : PE X a ta) (hb : PE X b tb) (hm : behindInMarks op b = false) : PT X (.Compare a [op] [b] pos) (tTest (tOp r ta tb)) := by
  intro pins s σ H Q I h
  refine wpAny_isTrue_Compare1 (thn (ha pins s σ H _ I h) fun v s1 ⟨x, H1, I1, r1, q1⟩ => thn (hb pins s1 σ H1 _ I1 q1) fun u s2 ⟨y, H2, I2, r2, q2⟩ =>
    thn (ho pins s2 σ H2 x y v u _ I2 r1 r2 q2) fun c s3 ⟨z, H3, I3, r3, k, e, q3⟩ => ?_) hm
  subst e
  cases r3
  exact wpAny_truthy_bool ⟨H3, I3, q3⟩
def tChain (r r' : R2) (ta tb tc : TE) : TE := fun σ H Q => ta σ H fun x H1 => tb σ H1 fun y H2 => r x y H2 fun z H3 => ∃ k, z = .bl k /\
  (if k = true then tc σ H3 fun w' H4 => r' y w' H4 Q else Q (.bl false) H3)
theorem pt_chain {op op' : CmpOp} {r r' : R2} (ho : OpR X (compareOp op) r) (ho' : OpR X (compareOp op') r') (ha : PE X a ta) (hb : PE X b tb) (hc : PE X c tc)
    (hm : lastMarks [op, op'] [b, c] = false := by with_unfolding_all rfl) : PT X (.Compare a [op, op'] [b, c] pos) (tTest (tChain r r' ta tb tc)) := by
  intro pins s σ H Q I h
  refine isTrue_chain (thn (ha pins s σ H _ I h) fun v s1 ⟨x, H1, I1, r1, q1⟩ => test_link (thn (hb pins s1 σ H1 _ I1 q1) fun u s2 ⟨y, H2, I2, r2, q2⟩ =>
    thn (ho pins s2 σ H2 x y v u _ I2 r1 r2 q2) fun d s3 ⟨z, H3, I3, r3, k, e, q3⟩ => ?_)) hm
  subst e
  cases r3
  refine wpAny_truthy_bool ?_
  cases k with
  | false =>
    obtain ⟨k', e', q'⟩ := q3
    cases e'
    exact ite_ff ⟨H3, I3, q'⟩
  | true =>
    refine ite_tt (test_last (thn (hc pins s3 σ H3 _ I3 q3) fun w' s4 ⟨z', H4, I4, r4, q4⟩ => thn (ho' pins s4 σ H4 y z' u w' _ I4 r2 r4 q4) fun d' s5 ⟨z2, H5, I5, r5, k2, e2, q5⟩ => ?_))
    subst e2
    cases r5
    exact wpAny_truthy_bool ⟨H5, I5, q5⟩
theorem line63 : (sizeLine : Nat) < 2 ^ 63 := by rw [sizeLine_eq]; decide
theorem op_add_str : OpR X (binaryOp .Add) (fun x y H Q => ∃ i j, x = .str i /\ y = .str j /\ i.length + j.length <= sizeLine /\ Q (.str (i ++ j)) H) := by
  intro pins s σ H x y v u Q I rx ry h
  obtain ⟨i, j, rfl, rfl, hz, q⟩ := h
  obtain ⟨t, rfl⟩ := rx
  obtain ⟨t', rfl⟩ := ry
  exact add_str (fun t' tk => ⟨.str (i ++ j), H, I.tok _, ⟨_, rfl⟩, q⟩) hz
theorem vals1 {x : V} {us : List Value} (r : Vals [x] us) : ∃ u, us = [u] /\ RelV x u := by
  cases r with
  | cons r1 r2 => cases r2; exact ⟨_, rfl, r1⟩
theorem call_str_int : CallR X (.type "str") (fun xs H Q => ∃ i, xs = [.int i] /\ i.natAbs.log2 < 1920 /\ Q (.str (toString i)) H) := by
  intro pins s σ H xs us Q I r h
  obtain ⟨i, rfl, hz, q⟩ := h
  obtain ⟨u, rfl, t, rfl⟩ := vals1 r
  exact PySem.P.str_of_int hz ⟨.str _, H, I.tok _, ⟨_, rfl⟩, q⟩
end
structure ObjM (h : Heap) (x dx C : Addr) (mA : Str -> Option Value) : Prop where
  obj : h.get? x = some (PySem.W.instObj C dx)
  ns : h.Ns1 dx mA
  ne : dx ≠ x
theorem lookIn_ns {h : Heap} {dx : Addr} {mA : Str -> Option Value} (n : h.Ns1 dx mA) : ∃ od, h.get? dx = some od /\ ∀ name, PySem.W.lookIn name od = some (mA name) := by
  obtain ⟨o, es, ep, ho, hd, hk, _, hm⟩ := n
  refine ⟨o, ho, fun name => ?_⟩
  have e := hm name
  unfold nsFind findBy at e
  rw [<- Array.find?_toList] at e
  unfold PySem.W.lookIn
  rw [hd]
  dsimp only
  split
  · rename_i y q
    rw [q] at e
    exact congrArg some e
  · rename_i q
    rw [q] at e
    have a : es.toList.any (·.refKey) = false := by
      rw [List.any_eq_false]
      intro y hy
      obtain ⟨z, t, hkey⟩ := hk y (Array.mem_toList_iff.mp hy)
      simp [DictEntry.refKey, hkey]
    have a' : ¬ es.toList.any (·.refKey) = true := by rw [a]; exact Bool.false_ne_true
    rw [if_neg a']
    exact congrArg some e
theorem ObjM.look {h : Heap} {x dx C : Addr} {mA : Str -> Option Value} (I : ObjM h x dx C mA) : ∃ od, PySem.W.InstAt h x (PySem.W.instObj C dx) C (some od) /\ ∀ name, PySem.W.lookIn name od = some (mA name) :=
  let ⟨od, ho, hl⟩ := lookIn_ns I.ns
  ⟨od, ⟨I.obj, rfl, rfl, ho⟩, hl⟩
section
variable {prog : Program} {w : World} {A : Around} {E : Value -> Shared -> Prop} {s : Shared} {K : PySem.W.Frag} {x dx C f : Addr} {mA : Str -> Option Value} {name : Str} {v : Value}
end
theorem RelO.some_of {v : V} {o : Option Value} (r : RelO (some v) o) : ∃ u, o = some u /\ RelV v u := by
  cases o with
  | none => exact (show False from r).elim
  | some u => exact ⟨u, rfl, r⟩
section
variable {P : Program} {w : World} {H H' : Hp} {h h' : Heap} {a C dx : Addr} {fs fs' : List (Str × V)}
theorem ins_get (hok : HOk P w H h) (e : H a = some (.ins C dx fs)) : ∃ mA, ObjM h a dx C mA /\ (∀ f, RelO (fs.lookup f) (mA f)) /\ PySem.Within mA (fs.map (·.1)) /\ fs.length <= 1000 /\ H dx = some (.own a) := by
  obtain ⟨d, z, ne, ob, mA, n, r, q⟩ := (show ObjOk P w H h a (.ins C dx fs) from hok a _ e)
  exact ⟨mA, ⟨ob, n, ne⟩, r, q, z, d⟩
end
structure Cls (K : PySem.W.Frag) (C : Addr) : Prop where
  pg : PySem.W.plainGet K C Str.empty = true
  hd : PySem.W.hasDictIn K C = true
  po : PySem.W.plainOver K C = true
  sa : PySem.W.findIn K (.ref C) "__setattr__" = some (some (.builtin "object.__setattr__"))
theorem Cls.get {K : PySem.W.Frag} {C : Addr} (c : Cls K C) (f : Str) : PySem.W.plainGet K C f = true := c.pg
section
variable {X : Cx} {pins : List (Addr × Obj)} {σ : St} {H : Hp} {s : Shared} {a C dx : Addr} {fs : List (Str × V)} {f : Str} {v : V} {A : Around} {E : Value -> Shared -> Prop}
end
section
variable {X : Cx} {o e value : Expr} {f : Str} {pos pos' tpos : Pos} {ta tv : TE}
end
section
variable {X : Cx} {pins : List (Addr × Obj)} {σ : St} {H : Hp} {s : Shared} {A : Around} {E : Value -> Shared -> Prop} {Q : Value -> Shared -> Prop} {c : Value} {b : Bool}
inductive TyOf (K : PySem.W.Frag) (H : Hp) : V -> Value -> Prop where
  | non : TyOf K H .non (.type "NoneType")
  | bl (x : Bool) : TyOf K H (.bl x) (.type "bool")
  | int (i : Int) : TyOf K H (.int i) (.type "int")
  | str (x : Str) : TyOf K H (.str x) (.type "str")
  | flt (x : UInt64) : TyOf K H (.flt x) (.type "float")
  | lst {a : Addr} {xs : List V} (e : H a = some (.lst xs)) : TyOf K H (.ref a) (.type "list")
  | frz {a : Addr} {o : Obj} {xs : List V} (e : H a = some (.frz o (.lst xs))) : TyOf K H (.ref a) (.type "list")
  | tup {a : Addr} {xs : List V} (e : H a = some (.tup xs)) : TyOf K H (.ref a) (.type "tuple")
  | dK {a : Addr} {kvs : List (Key × V)} (e : H a = some (.dK kvs)) : TyOf K H (.ref a) (.type "dict")
  | dT {a : Addr} {kvs : List (List Key × V)} (e : H a = some (.dT kvs)) : TyOf K H (.ref a) (.type "dict")
  | ins {a C dx : Addr} {fs : List (Str × V)} (e : H a = some (.ins C dx fs)) (cl : Cls K C) (ha : PySem.W.findIn K (.ref C) "__class__" = some (some (.builtin "object.__class__")))
      (hn : PySem.W.specialIn K (.builtin "object.__class__") "__get__" = some (some (.builtin "getset_descriptor.__get__"))) (htk : PySem.W.takesIn K (.builtin "object.__class__") = some true)
      (hm : PySem.W.mroIn K C (.type "object") = some true) : TyOf K H (.ref a) (.ref C)
theorem isinst_ok {x : V} {u t : Value} (I : Inv X pins σ H s) (rx : RelV x u) (ty : TyOf X.K H x t) (e : PySem.W.kitOne X.K t c = some b) (h : ∀ tk, Q (.bool b) { s with toks := tk }) :
    wpAny (model X.prog X.w) A (call (.builtin "isinstance") [u, c]) Q E s := by
  cases ty with
  | non => cases (show u = Value.none from rx); exact PySem.W.kia_one PySem.W.kitx_none I.kIn True.intro e (fun z => nomatch z) h
  | bl y => cases (show u = Value.bool y from rx); exact PySem.W.kia_one PySem.W.kitx_bool I.kIn True.intro e (fun z => nomatch z) h
  | int i => obtain ⟨t, q⟩ := (show ∃ t, u = Value.int i t from rx); cases q; exact PySem.W.kia_one PySem.W.kitx_int I.kIn True.intro e (fun z => nomatch z) h
  | str y => obtain ⟨t, q⟩ := (show ∃ t, u = Value.str y t from rx); cases q; exact PySem.W.kia_one PySem.W.kitx_str I.kIn True.intro e (fun z => nomatch z) h
  | flt y => obtain ⟨t, q⟩ := (show ∃ t, u = Value.float y t from rx); cases q; exact PySem.W.kia_one PySem.W.kitx_float I.kIn True.intro e (fun z => nomatch z) h
  | @lst a xs ea =>
    cases (show u = Value.ref a from rx)
    obtain ⟨_, _, n, _, h1⟩ := (show ObjOk X.prog X.w H s.heap a (.lst xs) from I.hok a _ ea)
    exact PySem.W.kia_one PySem.W.kitx_list I.kIn ⟨_, h1, rfl⟩ e (fun z => nomatch z) h
  | @frz a ob xs ea =>
    cases (show u = Value.ref a from rx)
    obtain ⟨_, _, _, n, _, h1⟩ := (show ObjOk X.prog X.w H s.heap a (.frz ob (.lst xs)) from I.hok a _ ea)
    exact PySem.W.kia_one PySem.W.kitx_list I.kIn ⟨_, h1, rfl⟩ e (fun z => nomatch z) h
  | @tup a xs ea =>
    cases (show u = Value.ref a from rx)
    obtain ⟨_, _, _, p⟩ := (show ObjOk X.prog X.w H s.heap a (.tup xs) from I.hok a _ ea)
    obtain ⟨o, h1, h2, _⟩ := p
    exact PySem.W.kia_one PySem.W.kitx_tuple I.kIn ⟨o, h1, h2⟩ e (fun z => nomatch z) h
  | @dK a kvs ea =>
    cases (show u = Value.ref a from rx)
    obtain ⟨_, _, vs, _, p⟩ := (show ObjOk X.prog X.w H s.heap a (.dK kvs) from I.hok a _ ea)
    obtain ⟨o, es, ep, h1, h2, _⟩ := p
    exact PySem.W.kia_one PySem.W.kitx_dict I.kIn ⟨o, h1, h2.1⟩ e (fun z => nomatch z) h
  | @dT a kvs ea =>
    cases (show u = Value.ref a from rx)
    obtain ⟨_, _, xs, _, o, es, ep, h1, h2, _⟩ := (show ObjOk X.prog X.w H s.heap a (.dT kvs) from I.hok a _ ea)
    exact PySem.W.kia_one PySem.W.kitx_dict I.kIn ⟨o, h1, h2.1⟩ e (fun z => nomatch z) h
  | @ins a C dx fs ea cl ha hn htk hm =>
    cases (show u = Value.ref a from rx)
    obtain ⟨mA, O, _⟩ := ins_get I.hok ea
    obtain ⟨od, J, _⟩ := O.look
    exact PySem.W.kia_one (PySem.W.kitx_own (cl.get _) cl.hd ha hn htk hm) I.kIn J e (fun z => nomatch z) h
end
structure Room (k : Nat) (A : Around) : Prop where
  hd : A.handled = none
  dp : A.depth + 3 * k + 5 < recursionLimit
  un : A.units + 16 * k + 200 < cLine
theorem Room.mono {j k : Nat} {A : Around} (r : Room k A) (h : j <= k) : Room j A := ⟨r.hd, by have := r.dp; lia, by have := r.un; lia⟩
theorem Room.deeper {k : Nat} {A : Around} (r : Room (k + 1) A) (env : Env) : Room k (A.deeper env) :=
  ⟨r.hd, by have := r.dp; show A.depth + 1 + 3 * k + 5 < _; lia, by have := r.un; show A.units + 3 + 16 * k + 200 < _; lia⟩
theorem Room.depth {k : Nat} {A : Around} (r : Room k A) : A.depth < recursionLimit := by have := r.dp; lia
theorem Room.units {k : Nat} {A : Around} (r : Room k A) : A.units + 64 < cLine := by have := r.un; lia
def tNil : TA := fun _ H Q => Q [] H
def tCons (ta : TE) (tr : TA) : TA := fun σ H Q => ta σ H fun x H1 => tr σ H1 fun xs H2 => Q (x :: xs) H2
section
variable {X : Cx} {e : Expr} {es : List Expr} {te : TE} {t : TA} {pos : Pos}
theorem pa_nil : PA X [] tNil := fun _ _ _ _ H Q I h => Calls.spliced_nil ⟨[], H, I, .nil, h⟩
theorem pa_cons (ha : PE X e te) (hr : PA X es t) (hs : starEach (e :: es) X.env = (false, eval e X.env) :: starEach es X.env := by rfl) : PA X (e :: es) (tCons te t) := by
  intro pos pins s σ H Q I h
  rw [hs]
  show wpAny _ _ (spliced ((false, eval e X.env) :: backTo pos (starEach es X.env))) _ _ s
  refine Calls.spliced_cons (thn (ha pins s σ H _ I h) fun u s1 ⟨x, H1, I1, r1, q1⟩ => ?_)
  exact thn (hr pos pins s1 σ H1 _ I1 q1) fun us s2 ⟨xs, H2, I2, r2, q2⟩ => ⟨x :: xs, H2, I2, .cons r1 r2, q2⟩
def tTup (t : TA) : TE := fun σ H Q => t σ H fun xs H1 => xs.length <= sizeLine /\ ∀ p, H1 p = none -> Q (.ref p) (upd H1 p (.tup xs))
def tLst (t : TA) : TE := fun σ H Q => t σ H fun xs H1 => xs.length <= sizeLine /\ ∀ p, H1 p = none -> Q (.ref p) (upd H1 p (.lst xs))
theorem pe_tup {x1} (h : PA X es t) : PE X (.Tuple es x1 pos) (tTup t) := by
  intro pins s σ H Q I hq
  refine wpAny_Tuple_spliced (thn (h pos pins s σ H _ I hq) fun us s1 ⟨xs, H1, I1, r, z, q⟩ => ⟨by rw [<- r.length]; exact z, ?_⟩)
  have hf : H1 s1.heap.objs.size = none := I1.hok.fresh (Nat.le_refl _)
  refine ⟨.ref s1.heap.objs.size, upd H1 s1.heap.objs.size (.tup xs), I1.laid (t' := s1.toks) (fun b u e => Heap.get?_push_of_some _ e) (Nat.le_refl _) ?_, rfl, q _ hf⟩
  exact ⟨z, us, r, ⟨_, Heap.get?_push_size _ rfl, rfl, _, rfl⟩⟩
theorem pe_lst (h : PA X es t) : PE X (.List es pos) (tLst t) := by
  intro pins s σ H Q I hq
  refine wpAny_List_spliced (thn (h pos pins s σ H _ I hq) fun us s1 ⟨xs, H1, I1, r, z, q⟩ => ⟨by rw [<- r.length]; exact z, ?_⟩)
  have hf : H1 s1.heap.objs.size = none := I1.hok.fresh (Nat.le_refl _)
  refine ⟨.ref s1.heap.objs.size, upd H1 s1.heap.objs.size (.lst xs), I1.laid (t' := s1.toks) (fun b u e => Heap.get?_push_of_some _ e) (Nat.le_refl _) ?_, rfl, q _ hf⟩
  exact ⟨z, us, 0, r, Heap.get?_push_size _ rfl⟩
end
abbrev Sp := List V -> Hp -> VK -> XK -> Prop
abbrev CXT := List Env -> Hp -> Shared -> XK -> Value -> Shared -> Prop
structure Env0 (P : Program) (w : World) (K : PySem.W.Frag) (mg : Str -> Option Value) (base : Heap) (A : Around) (outer : List Env) (s : Shared) (H : Hp) : Prop where
  frames : A.frames = some outer
  mod : Mod K mg base
  bs : ∀ b o, base.get? b = some o -> s.heap.get? b = some o /\ H b = none
  bsz : base.objs.size <= s.heap.objs.size
  funs : s.heap.FunFrames base outer
  frf : ∀ b ∈ frs outer, H b = none
  hok : HOk P w H s.heap
  bare : AllBare s.gens
def CE (outer : List Env) (P : Program) (w : World) (H : Hp) (s : Shared) (Q : VK) (u : Value) (s' : Shared) : Prop :=
  ∃ v H', s'.os = s.os /\ AllBare s'.gens /\ Un (frs outer) [] H H' s.heap s'.heap /\ HOk P w H' s'.heap /\ RelV v u /\ Q v H'
def CR (CX : CXT) (outer : List Env) (P : Program) (w : World) (H : Hp) (s : Shared) (Q : VK) (E : XK) (r : Result) (s' : Shared) : Prop :=
  match r with
  | .ok (.ret u) => CE outer P w H s Q u s'
  | .ok _ => False
  | .error e => CX outer H s E e s'
structure FnOk (P : Program) (w : World) (K : PySem.W.Frag) (mg : Str -> Option Value) (base : Heap) (CX : CXT) (k : Nat) (f : Addr) (fd : FuncData) (ps : List Str) (sp : Sp) : Prop where
  len : ∀ vs H Q E, sp vs H Q E -> vs.length = ps.length
  run : ∀ (A : Around) (outer : List Env) (s : Shared) (H : Hp) (args : Args) (us : List Value) (vs : List V) (Q : VK) (E : XK), Room k A -> Env0 P w K mg base A outer s H -> BindsTo s fd args (ps.zip us) -> Vals vs us -> sp vs H Q E ->
    codeAny (model P w) A (.call (.ref f) args) (CR CX outer P w H s Q E) s
section
variable {X : Cx} {pins : List (Addr × Obj)} {σ : St} {H : Hp} {s s' : Shared}
theorem Inv.env0 (I : Inv X pins σ H s) : Env0 X.prog X.w X.K X.mg X.base X.A X.stack s H :=
  ⟨I.ok.frames, I.ok.mod, I.bs, Nat.le_trans I.ok.bsz I.sz, I.stack, I.stkFree, I.hok, I.bare⟩
theorem Inv.after {Q : VK} {u : Value} (I : Inv X pins σ H s) (h : CE X.stack X.prog X.w H s Q u s') : EP X pins σ Q u s' := by
  obtain ⟨v, H', os, bare, un, hok, r, q⟩ := h
  obtain ⟨hh, g, d, t, os'⟩ := s'
  obtain rfl : os' = s.os := os
  exact ⟨v, H', I.call (h' := hh) (g' := g) (d' := d) (t' := t) (ch := []) un hok bare (fun b z => absurd z (by simp)), r, q⟩
end
def tCall (sp : Sp) (dvs : List V) (E : XK) (t : TA) : TE := fun σ H Q => t σ H fun vs H1 => sp (vs ++ dvs) H1 Q E
def Binds (K : PySem.W.Frag) (fd : FuncData) (ps : List Str) (ds : List Value) : Prop :=
  ∀ (s : Shared) (us : List Value), K.In s.heap -> (us ++ ds).length = ps.length -> BindsTo s fd ⟨us, []⟩ (ps.zip (us ++ ds))
theorem Binds.all {K : PySem.W.Frag} {fd : FuncData} {ps : List Str} (h : ∀ us : List Value, us.length = ps.length -> bindArgs fd ⟨us, []⟩ = pure (ps.zip us)) : Binds K fd ps [] := fun s us _ hl => by
  rw [List.append_nil] at hl ⊢
  exact .of_eq (h us hl)
def Passes (CX : CXT) (X : Cx) (E : XK) : Prop := ∀ (pins : List (Addr × Obj)) (σ : St) (H : Hp) (s : Shared) (e : Value) (s' : Shared), Inv X pins σ H s -> CX X.stack H s E e s' -> X.xe e s'
section
variable {X : Cx} {CX : CXT} {k : Nat} {f C : Addr} {fd : FuncData} {ps : List Str} {sp : Sp} {dvs : List V} {ds : List Value} {E : XK} {x m : Str} {p pos apos : Pos} {e o : Expr} {es : List Expr} {ta : TE} {t : TA}
theorem run_fn {pins : List (Addr × Obj)} {σ : St} {H : Hp} {s : Shared} {Q : VK} {us : List Value} {vs : List V} (F : FnOk X.prog X.w X.K X.mg X.base CX k f fd ps sp) (hr : Room k X.A) (hb : Binds X.K fd ps ds) (hd : Vals dvs ds) (hx : Passes CX X E)
    (I : Inv X pins σ H s) (r : Vals vs us) (h : sp (vs ++ dvs) H Q E) : wpAny (model X.prog X.w) X.A (call (.ref f) us) (EP X pins σ Q) X.xe s := by
  have r2 : Vals (vs ++ dvs) (us ++ ds) := r.append hd
  have hl : (us ++ ds).length = ps.length := by rw [<- r2.length]; exact F.len _ _ _ _ h
  refine wpAny_call (codeAny_mono (F.run X.A X.stack s H ⟨us, []⟩ (us ++ ds) (vs ++ dvs) Q E hr I.env0 (hb s us I.kIn hl) r2 h) fun r s' hq => ?_)
  cases r with
  | error e => exact hx pins σ H s e s' I hq
  | ok fl =>
    cases fl with
    | ret u => exact I.after hq
    | next => exact False.elim hq
    | brk => exact False.elim hq
    | cont => exact False.elim hq
theorem pe_call (F : FnOk X.prog X.w X.K X.mg X.base CX k f fd ps sp) (hr : Room k X.A) (hg : Gl X x) (hm : X.mg x = some (.ref f)) (hk : PySem.W.keepIn X.K (.ref f) = true) (hb : Binds X.K fd ps ds) (hd : Vals dvs ds) (hx : Passes CX X E)
    (ha : PA X (e :: es) t) (hdb : (x == ("__debug__" : Str)) = false := by decide) (he : starEach (e :: es) X.env = (false, eval e X.env) :: starEach es X.env := by rfl) (hpl : (backTo pos (starEach es X.env)).any (·.1) = false := by rfl) :
    PE X (.Call (.Name x p) (e :: es) [] pos) (tCall sp dvs E t) := by
  intro pins s σ H Q I h
  refine wpAny_Call_Name_kw (ld_glob I hg hm ?_ hdb)
  refine PySem.W.callWith_K (h₀ := X.base) I.ok.mod.kin hk (thn (ha pos pins s σ H _ I h) fun us s1 ⟨vs, H1, I1, r, q⟩ => ⟨I1.kIn, ?_⟩) he hpl
  exact run_fn F hr hb hd hx I1 r q
end
section
variable {X : Cx} {CX : CXT} {k : Nat} {f C : Addr} {fd : FuncData} {ps ks : List Str} {sp : Sp} {E : XK} {x m : Str} {p pos apos kpos : Pos} {e o : Expr} {es : List Expr} {kws : List Keyword} {te ta : TE} {t tk : TA} {nm : Option Str}
variable {g : List Value -> List Value -> List Value} {gV : List V -> List V -> List V}
end
structure FnScope (N P : List Str) (sc : Scope) : Prop where
  kind : sc.kind = .function
  co : sc.isCoroutine = false
  gen : sc.isGenerator = false
  nd : N.Nodup
  pre : N.take P.length = P
  par : ∀ x ∈ P, sc.names.lookup x = some .local \/ sc.names.lookup x = some .cell
  nofree : ∀ y ∈ sc.names, y.2 ≠ .free
theorem bindL_out {kindOf : Str -> Option NameKind} {x : Str} : ∀ {binds : List (Str × Value)} {m : Str -> Option Value}, (∀ v, (x, v) ∉ binds) -> bindL kindOf binds m x = m x
  | [], _, _ => rfl
  | (n, v) :: r, m, h => by
    unfold bindL
    rw [bindL_out fun w hw => h w (List.mem_cons_of_mem _ hw)]
    split
    · have : x ≠ n := by rintro rfl; exact h v List.mem_cons_self
      simp [this]
    · rfl
theorem bindC_out {kindOf : Str -> Option NameKind} {x : Str} : ∀ {binds : List (Str × Value)} {m : Str -> Option Value}, (∀ v, (x, v) ∉ binds) -> bindC kindOf binds m x = m x
  | [], _, _ => rfl
  | (n, v) :: r, m, h => by
    unfold bindC
    rw [bindC_out fun w hw => h w (List.mem_cons_of_mem _ hw)]
    split
    · rfl
    · have : x ≠ n := by rintro rfl; exact h v List.mem_cons_self
      simp [this]
theorem bindL_get {kindOf : Str -> Option NameKind} {x : Str} {v : Value} : ∀ {P : List Str} {vs : List Value} {i : Nat} {m : Str -> Option Value}, P.Nodup -> P[i]? = some x -> vs[i]? = some v -> kindOf x = some .local ->
    bindL kindOf (P.zip vs) m x = some v
  | [], _, _, _, _, h, _, _ => by simp at h
  | _ :: _, [], _, _, _, _, h, _ => by simp at h
  | p :: P, w :: vs, 0, m, nd, h1, h2, hk => by
    simp at h1 h2; subst h1; subst h2
    show bindL kindOf ((p, w) :: P.zip vs) m p = _
    unfold bindL
    rw [bindL_out fun v hv => (List.nodup_cons.mp nd).1 (List.of_mem_zip hv).1, if_pos hk]
    simp
  | p :: P, w :: vs, i + 1, m, nd, h1, h2, hk => by
    show bindL kindOf ((p, w) :: P.zip vs) m x = _
    unfold bindL
    exact bindL_get (i := i) (List.nodup_cons.mp nd).2 (by simpa using h1) (by simpa using h2) hk
theorem bindC_get {kindOf : Str -> Option NameKind} {x : Str} {v : Value} : ∀ {P : List Str} {vs : List Value} {i : Nat} {m : Str -> Option Value}, P.Nodup -> P[i]? = some x -> vs[i]? = some v -> kindOf x ≠ some .local ->
    bindC kindOf (P.zip vs) m x = some v
  | [], _, _, _, _, h, _, _ => by simp at h
  | _ :: _, [], _, _, _, _, h, _ => by simp at h
  | p :: P, w :: vs, 0, m, nd, h1, h2, hk => by
    simp at h1 h2; subst h1; subst h2
    show bindC kindOf ((p, w) :: P.zip vs) m p = _
    unfold bindC
    rw [bindC_out fun v hv => (List.nodup_cons.mp nd).1 (List.of_mem_zip hv).1, if_neg hk]
    simp
  | p :: P, w :: vs, i + 1, m, nd, h1, h2, hk => by
    show bindC kindOf ((p, w) :: P.zip vs) m x = _
    unfold bindC
    exact bindC_get (i := i) (List.nodup_cons.mp nd).2 (by simpa using h1) (by simpa using h2) hk
def start (N : List Str) (vs : List V) : St := vs.map some ++ List.replicate (N.length - vs.length) none
def cxOf (CX : CXT) (P : Program) (w : World) (K : PySem.W.Frag) (mg : Str -> Option Value) (base : Heap) (N : List Str) (qual : Str) (scope : Scope) (f : Addr) (cd : Value) (A : Around) (outer : List Env) (s : Shared) (H : Hp) (E : XK) : Cx where
  prog := P
  w := w
  K := K
  mg := mg
  base := base
  A := A.deeper (envOfC qual scope s.heap.objs.size f cd)
  N := N
  s₀ := s
  H₀ := H
  env := envOfC qual scope s.heap.objs.size f cd
  outer := outer
  stack := envOfC qual scope s.heap.objs.size f cd :: outer
  ex := []
  calm := true
  fn := fun _ => true
  pn := []
  xe := fun e s' => wpAny (model P w) (A.deeper (envOfC qual scope s.heap.objs.size f cd)) (leaving (envOfC qual scope s.heap.objs.size f cd) e) (fun _ s'' => CX outer H s E e s'') (fun e' s'' => CX outer H s E e' s'') s'
theorem cell_has {sc : Scope} {n : Nat} {x : Str} (h : sc.names.lookup x = some .cell) : ∃ c, (cellsFrom n sc.names []).lookup x = some c := by
  have q := PySem.W.cellsFrom_some sc.names n [] (.inl h)
  exact Option.isSome_iff_exists.mp q
theorem inv_start {CX : CXT} {P : Program} {w : World} {K : PySem.W.Frag} {mg : Str -> Option Value} {base : Heap} {N ps : List Str} {qual : Str} {scope : Scope} {f : Addr} {cd : Value} {A : Around} {outer : List Env} {s s1 : Shared} {H : Hp} {E : XK} {us : List Value} {vs : List V}
    (S : FnScope N ps scope) (hd : A.handled = none) (e0 : Env0 P w K mg base A outer s H) (hl : vs.length = ps.length) (r : Vals vs us)
    (x : InCallC s s.heap.objs.size (bindL (envOfC qual scope s.heap.objs.size f cd).kindOf (ps.zip us) fun _ => none) (cellsFrom (s.heap.objs.size + 1) scope.names []) (bindC (envOfC qual scope s.heap.objs.size f cd).kindOf (ps.zip us) fun _ => none) s1) :
    Inv (cxOf CX P w K mg base N qual scope f cd A outer s H E) [] (start N vs) H s1 := by
  have hpl : ps.length <= N.length := by have := congrArg List.length S.pre; rw [List.length_take] at this; lia
  obtain ⟨h1, tk, rfl, hk⟩ := x.done
  have noA : ∀ b : Addr, b ∉ (cxOf CX P w K mg base N qual scope f cd A outer s H E).ex := fun b z => absurd (show b ∈ ([] : List Addr) from z) (by simp)
  refine ⟨⟨e0.mod, S.kind, rfl, rfl, Nat.le_refl _, fun y z c h1 h2 => ?_, fun y hy => ?_, fun y c _ h => ?_, fun _ => hd, Around.frames_deeper e0.frames, .inr ⟨rfl, rfl⟩, fun b z => absurd z (noA b), e0.bs, e0.bsz, fun b _ _ => noA b, fun b z => absurd z (noA b), e0.funs, e0.frf⟩,
    rfl, e0.bare, Un.kept hk, ⟨_, x.toInCall.ns, fun i y v h1 h2 h3 => ?_⟩, fun y c h => ⟨_, x.cell y c h⟩, e0.hok.fresh (Nat.le_refl _), fun y c h => ?_, fun p hp => absurd (show p ∈ ([] : List (Addr × Obj)) from hp) (by simp), e0.hok.kept hk, ?_⟩
  · exact name_of_addr x.apart (PySem.mem_of_lookup h1) (PySem.mem_of_lookup h2)
  · have hy : scope.names.lookup y = some .cell \/ scope.names.lookup y = some .free := hy
    rcases hy with hy | hy
    · exact cell_has hy
    · exact absurd rfl (S.nofree _ (PySem.mem_of_lookup hy))
  · exact Nat.le_of_lt (x.above y c (PySem.mem_of_lookup h))
  · have hi : i < vs.length := by
      unfold start at h2
      by_cases hi : i < vs.length
      · exact hi
      · rw [List.getElem?_append_right (by simpa using hi)] at h2
        rw [List.getElem?_replicate] at h2
        split at h2 <;> cases h2
    have ha : vs[i]? = some v := by
      unfold start at h2
      rw [List.getElem?_append_left (by simpa using hi), List.getElem?_map] at h2
      cases e : vs[i]? with
      | none => rw [e] at h2; cases h2
      | some a => rw [e] at h2; cases h2; rfl
    obtain ⟨u, hu, rv⟩ := r.get ha
    have hp : ps[i]? = some y := by
      rw [<- S.pre, List.getElem?_take_of_lt (by lia)]; exact h1
    have ndP : ps.Nodup := by rw [<- S.pre]; exact S.nd.sublist (List.take_sublist _ _)
    refine ⟨u, rv, ?_⟩
    rcases S.par y (List.mem_of_getElem? hp) with k | k
    · exact .inl ⟨k, bindL_get ndP hp hu k⟩
    · obtain ⟨c, e⟩ := cell_has (n := s.heap.objs.size + 1) k
      refine .inr ⟨.inl k, c, e, ?_⟩
      have q := x.cell y c e
      rw [bindC_get ndP hp hu (by show scope.names.lookup y ≠ _; rw [k]; decide)] at q
      exact q
  · exact e0.hok.fresh (Nat.le_of_lt (x.above y c (PySem.mem_of_lookup h)))
  · unfold start
    show _ = N.length
    rw [List.length_append, List.length_map, List.length_replicate]
    lia
theorem fn_of {CX : CXT} {P : Program} {w : World} {K : PySem.W.Frag} {mg : Str -> Option Value} {base : Heap} {k : Nat} {f : Addr} {name qual : Str} {params : Arguments} {body : List Stmt} {scope : Scope} {dV kV doc pm cdv ct oc : Value} {an od : Option Addr}
    {osl : Array (Option Value)} {N ps : List Str} {sp : Sp} (lk : K.lookup f = some ⟨oc, od, .func (PySem.W.fnOf name qual params body scope dV kV doc pm an cdv ct), osl⟩) (hcd : PySem.W.codeIn K cdv qual = true) (S : FnScope N ps scope)
    (len : ∀ vs H Q E, sp vs H Q E -> vs.length = ps.length)
    (hbody : ∀ (A : Around) (outer : List Env) (s : Shared) (H : Hp) (vs : List V) (Q : VK) (E : XK), Room k (A.deeper (envOfC qual scope s.heap.objs.size f cdv)) -> sp vs H Q E ->
      ∃ t, PSs (cxOf CX P w K mg base N qual scope f cdv A outer s H E) body t /\ t { nx := fun _ H' => Q .non H', rt := Q } (start N vs) H) :
    FnOk P w K mg base CX (k + 1) f (PySem.W.fnOf name qual params body scope dV kV doc pm an cdv ct) ps sp := by
  refine ⟨len, fun A outer s H args us vs Q E hr e0 hb r hsp => ?_⟩
  have hl := len _ _ _ _ hsp
  have KX : K.In s.heap := e0.mod.kin.keeps fun b o e => (e0.bs b o e).1
  have lim : s.heap.NoLimit := e0.mod.nolimit.keeps fun b o e => (e0.bs b o e).1
  have hkind : ∀ y ∈ ps.zip us, scope.names.lookup y.1 = some .local \/ (scope.names.lookup y.1 = some .cell /\ ((cellsFrom (s.heap.objs.size + 1) scope.names []).lookup y.1).isSome = true) := fun ⟨n, v⟩ hy => by
    rcases S.par n (List.of_mem_zip hy).1 with q | q
    · exact .inl q
    · exact .inr ⟨q, PySem.W.cellsFrom_some _ _ _ (.inl q)⟩
  refine codeAny_call_function hr.depth (KX _ _ lk) rfl S.co S.gen rfl (PySem.W.codeRec_of KX hcd) (hb _ _ _ _ ?_)
  refine wpAny_newFunctionEnv_cells S.kind hkind fun env he s1 x => ?_
  subst he
  refine ⟨lim.keeps x.toInCall.keep, codeAny_func ?_⟩
  obtain ⟨t, ht, hq⟩ := hbody A outer s H vs Q E (hr.deeper _) hsp
  have I : Inv (cxOf CX P w K mg base N qual scope f cdv A outer s H E) [] (start N vs) H s1 := inv_start S hr.hd e0 hl r x
  refine wpAny_mono (ht [] s1 (start N vs) H _ I hq) (fun fl s' hs => ?_) fun e s' hs => hs
  have fin : ∀ {σ' : St} {H' : Hp} {v : V} {u : Value}, Inv (cxOf CX P w K mg base N qual scope f cdv A outer s H E) [] σ' H' s' -> RelV v u -> Q v H' -> CE outer P w H s Q u s' :=
    fun {σ' H' v u} J rv q => ⟨v, H', J.os, J.bare, J.base, J.hok, rv, q⟩
  cases fl with
  | ret u =>
    obtain ⟨v, σ', H', J, rv, q⟩ := hs
    exact fin J rv q
  | next =>
    obtain ⟨σ', H', J, q⟩ := hs
    exact fin (v := V.non) (u := Value.none) J rfl q
  | brk =>
    obtain ⟨_, _, _, q⟩ := hs
    exact False.elim q
  | cont =>
    obtain ⟨_, _, _, q⟩ := hs
    exact False.elim q
section
variable {X : Cx} {x : Str} {p pos : Pos} {e : Expr} {es : List Expr} {t : TA} {id T : String} {r : List V -> Hp -> VK -> Prop}
def tCB (r : List V -> Hp -> VK -> Prop) (t : TA) : TE := fun σ H Q => t σ H fun vs H1 => r vs H1 Q
theorem pe_callB (hc : CallR X (.builtin id) r) (hg : Gl X x) (hm : X.mg x = none) (hv : bootBuiltins x = some (.builtin id)) (ha : PA X (e :: es) t) (hn : x ≠ "__name__" := by decide) (hdb : (x == ("__debug__" : Str)) = false := by decide)
    (he : starEach (e :: es) X.env = (false, eval e X.env) :: starEach es X.env := by rfl) (hpl : (backTo pos (starEach es X.env)).any (·.1) = false := by rfl) : PE X (.Call (.Name x p) (e :: es) [] pos) (tCB r t) := by
  intro pins s σ H Q I h
  refine wpAny_Call_Name_kw (ld_blt I hg hm hv ?_ hn hdb)
  exact PyProof.Rows.callWith_builtin1 (thn (ha pos pins s σ H _ I h) fun us s1 ⟨vs, H1, I1, r1, q1⟩ => hc pins s1 σ H1 vs us Q I1 r1 q1) he hpl
theorem pe_callTy (hc : CallR X (.type T) r) (hg : Gl X x) (hm : X.mg x = none) (hv : bootBuiltins x = some (.type T)) (ha : PA X (e :: es) t) (hn : x ≠ "__name__" := by decide) (hdb : (x == ("__debug__" : Str)) = false := by decide)
    (he : starEach (e :: es) X.env = (false, eval e X.env) :: starEach es X.env := by rfl) (hpl : (backTo pos (starEach es X.env)).any (·.1) = false := by rfl) : PE X (.Call (.Name x p) (e :: es) [] pos) (tCB r t) := by
  intro pins s σ H Q I h
  refine wpAny_Call_Name_kw (ld_blt I hg hm hv ?_ hn hdb)
  exact PyProof.Rows.callWith_type1 (thn (ha pos pins s σ H _ I h) fun us s1 ⟨vs, H1, I1, r1, q1⟩ => hc pins s1 σ H1 vs us Q I1 r1 q1) he hpl
end
end L2
namespace HT
open PySem PyProof.Rows
def lexLt : List Int -> List Int -> Bool
  | [], [] => false
  | [], _ :: _ => true
  | _ :: _, [] => false
  | x :: xs, y :: ys => if x = y then lexLt xs ys else decide (x < y)
theorem lexLt_cons (x y : Int) (xs ys : List Int) : lexLt (x :: xs) (y :: ys) = if x = y then lexLt xs ys else decide (x < y) := rfl
section
open PySem.SeqAt
open PySem.AutoSeq1 (wpAny_loadPart')
open PySem.MeetsSeq PySem.MeetsSeq2 PySem.MeetsSeq3
end
section
variable {prog : Program} {w : World} {A : Around} {E : Value -> Shared -> Prop} {s : Shared}
def sIx (n d : Nat) : Option Int -> Nat
  | none => d
  | some v => if v < 0 then (v + (n : Int)).toNat else min v.toNat n
theorem sIx_nat (n d k : Nat) : sIx n d (some (k : Int)) = min k n := by
  show (if (k : Int) < 0 then ((k : Int) + (n : Int)).toNat else min (k : Int).toNat n) = min k n
  rw [if_neg (by lia), Int.toNat_natCast]
theorem sIx_le (n d : Nat) (hd : d <= n) (o : Option Int) : sIx n d o <= n := by
  cases o with
  | none => exact hd
  | some v =>
    show (if v < 0 then (v + (n : Int)).toNat else min v.toNat n) <= n
    by_cases hv : v < 0
    · rw [if_pos hv]; lia
    · rw [if_neg hv]; exact Nat.min_le_right _ _
theorem clip_eq (v : Int) (n d : Nat) : (if v < 0 then max (v + (n : Int)) 0 else min v (n : Int)) = ((sIx n d (some v) : Nat) : Int) := by
  show (if v < 0 then max (v + (n : Int)) 0 else min v (n : Int)) = (((if v < 0 then (v + (n : Int)).toNat else min v.toNat n) : Nat) : Int)
  by_cases hv : v < 0
  · simp only [if_pos hv]; lia
  · simp only [if_neg hv]; lia
theorem adjust_gen (lo hi : Option Int) (n : Nat) : Builtin.Slice.sliceAdjust lo hi 1 (n : Int) = (((sIx n 0 lo : Nat) : Int), ((sIx n n hi : Nat) : Int)) := by
  have h1 : ¬ ((1 : Int) < 0) := by lia
  unfold Builtin.Slice.sliceAdjust
  simp only [h1, if_false]
  refine Prod.ext ?_ ?_
  · cases lo with
    | none => rfl
    | some v => exact clip_eq v n 0
  · cases hi with
    | none => rfl
    | some v => exact clip_eq v n n
theorem places_gen (i j : Nat) : Builtin.Slice.slicePlaces (i : Int) (j : Int) 1 = j - i := by
  unfold Builtin.Slice.slicePlaces
  have h1 : (1 : Int) > 0 := by lia
  simp only [h1, if_true, Int.ediv_one]
  split <;> lia
theorem slicePart_ {v : Value} {o : Option Int} {Q : Option Int -> Shared -> Prop} (p : IsPart v o) (h : Q o s) : wpAny (model prog w) A (Builtin.Slice.slicePartIndex v) Q E s := by
  cases p with
  | none => exact slicePart_none h
  | int i t => exact slicePart_int h
theorem sliceApplied_gen {sl : Addr} {vl vu : Value} {lo hi : Option Int} {n : Nat} {Q : Int × Int × Nat -> Shared -> Prop} (hs : s.heap.IsSliceOf sl vl vu .none) (pl : IsPart vl lo) (pu : IsPart vu hi)
    (h : Q (((sIx n 0 lo : Nat) : Int), 1, sIx n n hi - sIx n 0 lo) s) : wpAny (model prog w) A (Builtin.Slice.sliceApplied (.ref sl) (pure (n : Int))) Q E s := by
  obtain ⟨os, hos, hcs, hds⟩ := id hs
  unfold Builtin.Slice.sliceApplied Builtin.Slice.sliceFields
  refine wpAny_bind (wpAny_bind (wpAny_field hos hds (x := vl) rfl (wpAny_bind (wpAny_field hos hds (x := vu) rfl (wpAny_bind (wpAny_field hos hds (x := .none) rfl (wpAny_pure ?_)))))))
  refine wpAny_bind (slicePart_none ?_)
  show wpAny _ _ (if ((1 : Int) == 0) = true then _ else _) _ _ s
  rw [if_neg (by decide)]
  refine wpAny_bind (slicePart_ pl (wpAny_bind (slicePart_ pu (wpAny_bind (wpAny_pure ?_)))))
  show wpAny _ _ (match Builtin.Slice.sliceAdjust lo hi 1 (n : Int) with | (lo, hi) => pure (lo, (1 : Int), Builtin.Slice.slicePlaces lo hi 1)) _ _ s
  rw [adjust_gen lo hi n]
  show wpAny _ _ (pure (((sIx n 0 lo : Nat) : Int), (1 : Int), Builtin.Slice.slicePlaces ((sIx n 0 lo : Nat) : Int) ((sIx n n hi : Nat) : Int) 1)) _ _ s
  rw [places_gen]
  exact wpAny_pure h
theorem pick_gen (xs : Array Value) (i k : Nat) : ((List.range k).filterMap fun (m : Nat) => xs[((i : Int) + (m : Int) * 1).toNat]?).toArray = ((xs.toList.drop i).take k).toArray := by
  have e : (fun (m : Nat) => xs[((i : Int) + (m : Int) * 1).toNat]?) = fun m => xs[i + m]? := by
    funext m
    have : ((i : Int) + (m : Int) * 1).toNat = i + m := by lia
    rw [this]
  rw [e]
  have := pick_run xs i k
  rw [List.filterMap_map] at this
  have e2 : ((fun x => xs[x]?) ∘ fun x => i + x) = fun m => xs[i + m]? := rfl
  rw [e2] at this
  rw [this]
theorem getItem_tuple_cut {t sl : Addr} {items : Array Value} {vl vu : Value} {lo hi : Option Int} {Q : Value -> Shared -> Prop} (ht : IsTup s.heap t items) (hs : s.heap.IsSliceOf sl vl vu .none) (pl : IsPart vl lo) (pu : IsPart vu hi)
    (hw : ¬ (sIx items.size 0 lo = 0 /\ sIx items.size items.size hi = items.size))
    (h : Q (.ref s.heap.objs.size) { s with heap := s.heap.push { cls := .type "tuple", data := .seq ((items.toList.drop (sIx items.size 0 lo)).take (sIx items.size items.size hi - sIx items.size 0 lo)).toArray } })
    (hsz : items.size <= sizeLine) : wpAny (model prog w) A (getItem (.ref t) (.ref sl)) Q E s := by
  have htake : sizeOk (.seq ((items.toList.drop (sIx items.size 0 lo)).take (sIx items.size items.size hi - sIx items.size 0 lo)).toArray) := by
    show ((items.toList.drop (sIx items.size 0 lo)).take (sIx items.size items.size hi - sIx items.size 0 lo)).toArray.size <= sizeLine
    rw [List.size_toArray, List.length_take, List.length_drop, Array.length_toList]
    lia
  have hj : sIx items.size items.size hi <= items.size := sIx_le _ _ (Nat.le_refl _) hi
  obtain ⟨os, hos, hcs, hds⟩ := id hs
  have hTs : s.TypeIs (.ref sl) "slice" := ⟨os, hos, hcs⟩
  unfold getItem
  try with_reducible refine wpAny_holding ?_
  first | refine wpAny_bind (wpAny_pure ?_) | skip
  refine wpAny_bind (wpAny_sequenceKey ht.typeIs (by decide) ?_)
  refine wpAny_bind (wpAny_callSpecial?_slot (name := Str.ofString "__getitem__") ht.typeIs PyProof.Rows.slot_tuple_getitem
    (wpAny_call_entry PyProof.Rows.slot_tuple_getitem ht.typeIs entry_tuple_getitem ?_ (args_tuple_getitem _ _)))
  show wpAny _ _ (Builtin.Tuple.tupleItemsOf (.ref t) >>= _) _ _ s
  refine wpAny_bind (tupleItemsOf_ ht ?_)
  refine wpAny_bind (wpAny_typeOf hTs ?_)
  rw [if_pos (by decide)]
  refine wpAny_bind (sliceApplied_gen hs pl pu ?_)
  have hno : ¬ ((((sIx items.size 0 lo : Nat) : Int) == 0 && (1 : Int) == 1 && (sIx items.size items.size hi - sIx items.size 0 lo) == items.size) = true) := by
    intro q
    rw [Bool.and_eq_true, Bool.and_eq_true] at q
    have q1 : ((sIx items.size 0 lo : Nat) : Int) = 0 := eq_of_beq q.1.1
    have q2 : sIx items.size items.size hi - sIx items.size 0 lo = items.size := eq_of_beq q.2
    exact hw ⟨by lia, by lia⟩
  show wpAny _ _ (if (((sIx items.size 0 lo : Nat) : Int) == 0 && (1 : Int) == 1 && (sIx items.size items.size hi - sIx items.size 0 lo) == items.size) = true then _ else _) _ _ s
  rw [if_neg hno, pick_gen]
  first
    | exact wpAny_bind (m := Builtin.Tuple.tupleExact _) (wpAny_newObj_type (wpAny_pure ⟨_, rfl, wpAny_pure h⟩) htake)
    | exact wpAny_bind (m := Builtin.Tuple.tupleExact _) (wpAny_newObj_type (wpAny_bind (wpAny_pure (wpAny_pure ⟨_, rfl, wpAny_pure h⟩))) htake)
    | exact wpAny_bind (wpAny_bind (m := Builtin.Tuple.tupleExact _) (wpAny_newObj_type (wpAny_pure (wpAny_pure ⟨_, rfl, wpAny_pure h⟩)) htake))
    | exact wpAny_bind (wpAny_bind (m := Builtin.Tuple.tupleExact _) (wpAny_newObj_type (wpAny_pure ⟨_, rfl, wpAny_pure h⟩) htake))
end
end HT
namespace L2
open PySem PySem.Spec PyProof.Rows
abbrev TO := St -> Hp -> (Option Int -> Hp -> Prop) -> Prop
def PO (X : Cx) (e : Option Expr) (t : TO) : Prop :=
  ∀ (pins : List (Addr × Obj)) (s : Shared) (σ : St) (H : Hp) (Q : Option Int -> Hp -> Prop), Inv X pins σ H s -> t σ H Q ->
    wpAny (model X.prog X.w) X.A (evalPart e X.env) (fun u s' => ∃ o H', Inv X pins σ H' s' /\ IsPart u o /\ Q o H') X.xe s
def tNoPart : TO := fun _ H Q => Q none H
def tPart (t : TE) : TO := fun σ H Q => t σ H fun x H1 => ∃ i, x = .int i /\ Q (some i) H1
theorem intsAre_of {ns : List Int} : ∀ {us : List Value}, Vals (ns.map V.int) us -> IntsAre us ns := by
  induction ns with
  | nil => intro us r; rw [List.map_nil] at r; cases r; exact .nil
  | cons n ns ih =>
    intro us r
    rw [List.map_cons] at r
    cases r with
    | cons r1 r2 =>
      obtain ⟨t, e⟩ := r1
      subst e
      exact .cons n t (ih r2)
section
variable {X : Cx} {e : Expr} {te : TE} {lo hi : Option Expr} {tl th : TO} {pos p2 : Pos}
theorem po_none : PO X none tNoPart := by
  intro pins s σ H Q I h
  rw [evalPart_none]
  exact wpAny_pure ⟨none, H, I, .none, h⟩
theorem po_some (h : PE X e te) : PO X (some e) (tPart te) := by
  intro pins s σ H Q I hw
  rw [evalPart_some]
  refine thn (h pins s σ H _ I hw) fun u s1 ⟨x, H1, I1, r1, q1⟩ => ?_
  obtain ⟨i, rfl, q⟩ := q1
  obtain ⟨t, rfl⟩ := r1
  exact ⟨some i, H1, I1, .int i t, q⟩
def SlR (X : Cx) (r : V -> Option Int -> Option Int -> Hp -> VK -> Prop) : Prop :=
  ∀ (pins : List (Addr × Obj)) (s : Shared) (σ : St) (H : Hp) (x : V) (v vl vu : Value) (lo hi : Option Int) (sl : Addr) (Q : VK), Inv X pins σ H s -> RelV x v -> s.heap.IsSliceOf sl vl vu .none -> IsPart vl lo -> IsPart vu hi -> r x lo hi H Q ->
    ∃ T id, typeLookup (.type T) "__getitem__" = pure (some (.builtin id)) /\ s.TypeIs v T /\ wpAny (model X.prog X.w) X.A (getItem v (.ref sl)) (EP X pins σ Q) X.xe s
def tSl (r : V -> Option Int -> Option Int -> Hp -> VK -> Prop) (te : TE) (tl th : TO) : TE := fun σ H Q => te σ H fun x H1 => tl σ H1 fun l H2 => th σ H2 fun u H3 => r x l u H3 Q
theorem pe_slice {r : V -> Option Int -> Option Int -> Hp -> VK -> Prop} (hr : SlR X r) (he : PE X e te) (hl : PO X lo tl) (hu : PO X hi th) : PE X (.Subscript e (.Slice lo hi none p2) pos) (tSl r te tl th) := by
  intro pins s σ H Q I h
  refine Subscript_ (thn (he pins s σ H _ I h) fun v s1 ⟨x, H1, I1, r1, q1⟩ => ?_)
  refine wpAny_Slice (thn (hl pins s1 σ H1 _ I1 q1) fun vl s2 ⟨l, H2, I2, pl, q2⟩ => thn (hu pins s2 σ H2 _ I2 q2) fun vu s3 ⟨u, H3, I3, pu, q3⟩ => ?_)
  rw [evalPart_none]
  refine wpAny_pure ?_
  have I4 : Inv X pins σ H3 { s3 with heap := s3.heap.push { cls := .type "slice", data := .fields #[vl, vu, .none] } } := I3.kept (t' := s3.toks) fun b ob q => Heap.get?_push_of_some _ q
  obtain ⟨T, id, hT, ht, hg⟩ := hr pins { s3 with heap := s3.heap.push { cls := .type "slice", data := .fields #[vl, vu, .none] } } σ H3 x v vl vu l u s3.heap.objs.size Q I4 r1 (Heap.IsSliceOf.new ..) pl pu q3
  show wpAny (model X.prog X.w) X.A (subscriptTail e (.Slice lo hi none p2) v (.ref s3.heap.objs.size)) (EP X pins σ Q) X.xe { s3 with heap := s3.heap.push { cls := .type "slice", data := .fields #[vl, vu, .none] } }
  exact tail_any (ops := [.ref s3.heap.objs.size, v]) ht hT hg (by with_unfolding_all rfl)
def cutV (xs : List V) (lo hi : Option Int) : List V := (xs.drop (HT.sIx xs.length 0 lo)).take (HT.sIx xs.length xs.length hi - HT.sIx xs.length 0 lo)
theorem cutV_length (xs : List V) (lo hi : Option Int) : (cutV xs lo hi).length <= xs.length := by
  unfold cutV
  rw [List.length_take, List.length_drop]
  lia
def rSlT (K : PySem.W.Frag) : V -> Option Int -> Option Int -> Hp -> VK -> Prop := fun x lo hi H Q => ∃ a xs, x = .ref a /\ SqT K H a xs /\
  ¬ (HT.sIx xs.length 0 lo = 0 /\ HT.sIx xs.length xs.length hi = xs.length) /\ ∀ p, H p = none -> Q (.ref p) (upd H p (.tup (cutV xs lo hi)))
theorem sl_tup : SlR X (rSlT X.K) := by
  intro pins s σ H x v vl vu lo hi sl Q I rx hs pl pu h
  obtain ⟨a, xs, rfl, hx, hw, q⟩ := h
  cases rx
  obtain ⟨its, r, ht, hz⟩ := I.tuple hx
  have hlen : its.toArray.size = xs.length := by rw [List.size_toArray]; exact r.length.symm
  refine ⟨"tuple", _, PyProof.Rows.slot_tuple_getitem.lookup, ht.typeIs, ?_⟩
  refine HT.getItem_tuple_cut ht hs pl pu (by rw [hlen]; exact hw) ?_ (by rw [hlen]; exact hz)
  rw [hlen]
  refine ⟨.ref s.heap.objs.size, _, I.laid (t' := s.toks) (o := .tup (cutV xs lo hi)) (fun b ob q => Heap.get?_push_of_some _ q) (Nat.le_refl _) ?_, rfl, q _ (I.hok.fresh (Nat.le_refl _))⟩
  exact ⟨Nat.le_trans (cutV_length xs lo hi) hz, _, (r.drop (HT.sIx xs.length 0 lo)).take (HT.sIx xs.length xs.length hi - HT.sIx xs.length 0 lo), IsTup.new _ _⟩
end
def ixN (n : Nat) (i : Int) : Option Nat := if 0 <= i then (if i < n then some i.toNat else none) else if -(n : Int) <= i then some (i + n).toNat else none
def atI {α : Type} (xs : List α) (i : Int) : Option α := (ixN xs.length i).bind fun j => xs[j]?
theorem ixN_seq {n : Nat} {i : Int} {j : Nat} (h : ixN n i = some j) : seqIndex? i n = some j /\ j < n /\ -(n : Int) <= i /\ i < n := by
  unfold ixN at h
  by_cases h0 : 0 <= i
  · rw [if_pos h0] at h
    by_cases h1 : i < n
    · rw [if_pos h1] at h
      have e : i.toNat = j := Option.some.inj h
      exact ⟨by rw [seqIndex_of h0 h1, e], by lia, by lia, h1⟩
    · rw [if_neg h1] at h; cases h
  · rw [if_neg h0] at h
    by_cases h1 : -(n : Int) <= i
    · rw [if_pos h1] at h
      have e : (i + n).toNat = j := Option.some.inj h
      exact ⟨by rw [seqIndex_neg (by lia) h1, e], by lia, h1, by lia⟩
    · rw [if_neg h1] at h; cases h
theorem atI_get {α : Type} {xs : List α} {i : Int} {v : α} (h : atI xs i = some v) : ∃ j, seqIndex? i xs.length = some j /\ xs[j]? = some v /\ j < xs.length /\ -(xs.length : Int) <= i /\ i < xs.length := by
  unfold atI at h
  cases e : ixN xs.length i with
  | none => rw [e] at h; cases h
  | some j =>
    rw [e] at h
    obtain ⟨h1, h2, h3, h4⟩ := ixN_seq e
    exact ⟨j, h1, h, h2, h3, h4⟩
theorem atI_nat {α : Type} {xs : List α} {j : Nat} {v : α} (h : xs[j]? = some v) : atI xs (j : Int) = some v := by
  have hj : j < xs.length := (List.getElem?_eq_some_iff.mp h).1
  have e : ixN xs.length (j : Int) = some j := by
    unfold ixN
    rw [if_pos (by lia), if_pos (by lia)]; simp
  unfold atI; rw [e]; exact h
def PlainIx (b : Expr) : Prop := ∀ o i, subscripted b false o i = operate [o, i] (getItem o i)
def IxR (X : Cx) (r : R2) : Prop :=
  ∀ (value slice : Expr) (pins : List (Addr × Obj)) (s : Shared) (σ : St) (H : Hp) (x y : V) (v u : Value) (Q : VK), Inv X pins σ H s -> RelV x v -> RelV y u -> r x y H Q ->
    subscripted slice false v u = operate [v, u] (getItem v u) -> wpAny (model X.prog X.w) X.A (subscriptTail value slice v u) (EP X pins σ Q) X.xe s
def MtR (X : Cx) (id : String) (r : V -> List V -> Hp -> VK -> Prop) : Prop :=
  ∀ (pins : List (Addr × Obj)) (s : Shared) (σ : St) (H : Hp) (x : V) (xs : List V) (v : Value) (us : List Value) (Q : VK), Inv X pins σ H s -> RelV x v -> Vals xs us -> r x xs H Q ->
    wpAny (model X.prog X.w) X.A (call (.builtin id) (v :: us)) (EP X pins σ Q) X.xe s
section
variable {X : Cx} {a b : Expr} {ta tb : TE} {pos : Pos}
theorem pe_ix {r : R2} (hr : IxR X r) (ha : PE X a ta) (hb : PE X b tb) (hs : PlainIx b) : PE X (.Subscript a b pos) (tOp r ta tb) := by
  intro pins s σ H Q I h
  exact Subscript_ (binT ha hb I h fun v u s2 x y H2 I2 rx ry q => hr a b pins s2 σ H2 x y v u Q I2 rx ry q (hs _ _))
def rIxL (K : PySem.W.Frag) : R2 := fun x y H Q => ∃ p xs i v, x = .ref p /\ y = .int i /\ SqL K H p xs /\ atI xs i = some v /\ Q v H
def rIxT (K : PySem.W.Frag) : R2 := fun x y H Q => ∃ p xs i v, x = .ref p /\ y = .int i /\ SqT K H p xs /\ atI xs i = some v /\ Q v H
def rIxS : R2 := fun x y H Q => ∃ z i c, x = .str z /\ y = .int i /\ z.length <= sizeLine /\ atI z.cps.toList i = some c /\ Q (.str ⟨#[c]⟩) H
theorem ix_list : IxR X (rIxL X.K) := by
  intro value slice pins s σ H x y v u Q I rx ry h hs
  obtain ⟨p, xs, i, z, rfl, rfl, hq, he, q⟩ := h
  cases rx
  obtain ⟨t, rfl⟩ := ry
  obtain ⟨its, r, pl, hz⟩ := I.list hq
  obtain ⟨j, h1, h2, h3, h4, h5⟩ := atI_get he
  obtain ⟨w, ew, rw'⟩ := r.get h2
  have hl := r.length
  have hn := line63
  have fin : EP X pins σ Q w s := ⟨z, H, I, rw', q⟩
  by_cases h0 : 0 <= i
  · have hj : i.toNat = j := by
      rw [seqIndex_of h0 h5] at h1
      exact Option.some.inj h1
    exact item_listR pl.isList h0 (by lia) (by rw [hj]; simpa using ew) fin hs
  · have hj : (i + (its.toArray.size : Int)).toNat = j := by
      rw [seqIndex_neg (by lia) h4] at h1
      rw [List.size_toArray, <- hl]
      exact Option.some.inj h1
    exact subscriptTail_builtinR (x := w) pl.isList.typeIs slot_list_getitem.lookup
      (wpAny_getItem_list_neg (Q := fun r s' => r = w /\ EP X pins σ Q r s') pl.isList (by lia) (by rw [List.size_toArray] <;> lia) (by lia) (by rw [hj]; simpa using ew) ⟨rfl, fin⟩) hs
theorem ix_tup : IxR X (rIxT X.K) := by
  intro value slice pins s σ H x y v u Q I rx ry h hs
  obtain ⟨p, xs, i, z, rfl, rfl, hq, he, q⟩ := h
  cases rx
  obtain ⟨t, rfl⟩ := ry
  obtain ⟨its, r, pl, hz⟩ := I.tuple hq
  obtain ⟨j, h1, h2, h3, h4, h5⟩ := atI_get he
  obtain ⟨w, ew, rw'⟩ := r.get h2
  have hl := r.length
  have hn := line63
  have fin : EP X pins σ Q w s := ⟨z, H, I, rw', q⟩
  exact subscriptTail_builtinR (x := w) pl.typeIs slot_tuple_getitem.lookup
    (getItem_tuple (j := j) (Q := fun r s' => r = w /\ EP X pins σ Q r s') pl (by lia) (by lia) (by rw [List.size_toArray, <- hl]; exact h1) (by simpa using ew) ⟨rfl, fin⟩) hs
theorem ix_str : IxR X rIxS := by
  intro value slice pins s σ H x y v u Q I rx ry h hs
  obtain ⟨z, i, c, rfl, rfl, hz, he, q⟩ := h
  obtain ⟨t, rfl⟩ := rx
  obtain ⟨t', rfl⟩ := ry
  obtain ⟨j, h1, h2, h3, h4, h5⟩ := atI_get he
  have hl : z.cps.toList.length = z.length := by simp [Str.length]
  rw [hl] at h1 h4 h5
  have hn := line63
  exact tail_any (typeIs_str s z t) slot_str_getitem.lookup (getItem_str (c := c) (by
    have e1 : decide (i < -(2 ^ 63 : Int)) = false := decide_eq_false (by lia)
    have e2 : decide (i >= 2 ^ 63) = false := decide_eq_false (by lia)
    rw [e1, e2, Bool.or_false]) (by rw [h1]; simpa using h2) ⟨.str ⟨#[c]⟩, H, I.tok _, ⟨_, rfl⟩, q⟩) hs
theorem mapSeq_set (its : List Value) (n j : Nat) (u : Value) : Obj.mapSeq (·.setIfInBounds j u) { cls := .type "list", data := .seq its.toArray n } = { cls := .type "list", data := .seq (its.set j u).toArray n } := by
  simp [Obj.mapSeq]
theorem Inv.lst {pins : List (Addr × Obj)} {σ : St} {H : Hp} {s : Shared} {p : Addr} {xs : List V} (I : Inv X pins σ H s) (h : H p = some (.lst xs)) :
    ∃ (its : List Value) (n : Nat), Vals xs its /\ s.heap.get? p = some { cls := .type "list", data := .seq its.toArray n } /\ xs.length <= sizeLine := by
  obtain ⟨z, its, n, r, e⟩ := I.hok p _ h
  exact ⟨its, n, r, e, z⟩
theorem Inv.lstUpd {pins : List (Addr × Obj)} {σ : St} {H : Hp} {s : Shared} {p : Addr} {xs ys : List V} {its its' : List Value} {n n' : Nat} {f : Obj -> Obj} (I : Inv X pins σ H s) (h : H p = some (.lst xs))
    (ho : s.heap.get? p = some { cls := .type "list", data := .seq its.toArray n }) (hf : f { cls := .type "list", data := .seq its.toArray n } = { cls := .type "list", data := .seq its'.toArray n' }) (r : Vals ys its') (hz : ys.length <= sizeLine) (t : Nat) :
    Inv X pins σ (upd H p (.lst ys)) { s with heap := s.heap.update p f, toks := t } := by
  have e : (s.heap.update p f).get? p = some { cls := .type "list", data := .seq its'.toArray n' } := by
    rw [Heap.get?_update_self f ho (by rw [hf] <;> rfl), hf]
  refine I.write (x := p) (e := p) (by rw [h]; trivial) (.inl rfl) (fun b u hb q => (Heap.get?_update_other _ _ (Ne.symm hb)).trans q) ⟨_, e⟩ ?_
  exact ⟨hz, its', n', r, e⟩
def rSetL : V -> V -> V -> Hp -> (Hp -> Prop) -> Prop := fun o i v H Q => ∃ p xs k j, o = .ref p /\ i = .int k /\ H p = some (.lst xs) /\ ixN xs.length k = some j /\ Q (upd H p (.lst (xs.set j v)))
theorem set_list : PSet X rSetL := by
  intro pins s σ H o i v ov iv u Q I ro ri rv h
  obtain ⟨p, xs, k, j, rfl, rfl, hp, hj, q⟩ := h
  cases ro
  obtain ⟨t, rfl⟩ := ri
  obtain ⟨its, n, r, ho, hz⟩ := I.lst hp
  obtain ⟨h1, h2, h3, h4⟩ := ixN_seq hj
  have hl := r.length
  have hn := line63
  have I' : Inv X pins σ (upd H p (.lst (xs.set j v))) { s with heap := s.heap.update p (Obj.mapSeq (·.setIfInBounds j u)) } :=
    I.lstUpd hp ho (mapSeq_set its n j u) (r.set rv j) (by rw [List.length_set]; exact hz) s.toks
  by_cases h0 : 0 <= k
  · have hk : k.toNat = j := by
      rw [seqIndex_of h0 h4] at h1
      exact Option.some.inj h1
    exact PySem.W.ki_setAt ho h0 (by lia) (by rw [List.size_toArray, <- hl]; exact h4) (by rw [hk]; exact ⟨_, I', q⟩)
  · have hk : (k + (its.toArray.size : Int)).toNat = j := by
      rw [seqIndex_neg (by lia) h3] at h1
      rw [List.size_toArray, <- hl]
      exact Option.some.inj h1
    exact PySem.W.ki_setBack ho (by lia) (by rw [List.size_toArray, <- hl]; exact h3) (by lia) (by rw [hk]; exact ⟨_, I', q⟩)
theorem slice_bounds (lo hi : Option Int) (n : Nat) : (sliceBounds lo hi none n).1 = ((HT.sIx n 0 lo : Nat) : Int) /\ (sliceBounds lo hi none n).2.1 = ((HT.sIx n n hi : Nat) : Int) /\ (sliceBounds lo hi none n).2.2 = 1 := by
  refine ⟨?_, ?_, rfl⟩
  · cases lo with
    | none => simp [sliceBounds, HT.sIx]
    | some i =>
      simp only [sliceBounds, HT.sIx, Option.getD_none, show (1 : Int) > 0 by decide, if_true]
      by_cases h : i < 0
      · simp only [h, if_true] <;> lia
      · simp only [h, if_false] <;> lia
  · cases hi with
    | none => simp [sliceBounds, HT.sIx]
    | some i =>
      simp only [sliceBounds, HT.sIx, Option.getD_none, show (1 : Int) > 0 by decide, if_true]
      by_cases h : i < 0
      · simp only [h, if_true] <;> lia
      · simp only [h, if_false] <;> lia
theorem slicePick_cut (its : List Value) (lo hi : Option Int) : slicePick its.toArray lo hi none = ((its.drop (HT.sIx its.length 0 lo)).take (HT.sIx its.length its.length hi - HT.sIx its.length 0 lo)).toArray := by
  obtain ⟨h1, h2, h3⟩ := slice_bounds lo hi its.toArray.size
  unfold slicePick
  rw [h1, h2, h3]
  simp only [sliceRange_one, pick_run, List.size_toArray] <;> rfl
def rSlL (K : PySem.W.Frag) : V -> Option Int -> Option Int -> Hp -> VK -> Prop := fun x lo hi H Q => ∃ a xs, x = .ref a /\ SqL K H a xs /\ ∀ p, H p = none -> Q (.ref p) (upd H p (.lst (cutV xs lo hi)))
theorem sl_list : SlR X (rSlL X.K) := by
  intro pins s σ H x v vl vu lo hi sl Q I rx hs pl pu h
  obtain ⟨a, xs, rfl, hx, q⟩ := h
  cases rx
  obtain ⟨its, r, ht, hz⟩ := I.list hx
  have hlen := r.length
  refine ⟨"list", _, slot_list_getitem.lookup, ht.isList.typeIs, ?_⟩
  refine wpAny_getItem_list_slice ht.isList hs pl pu .none (by simp) ?_ (by rw [List.size_toArray] <;> lia)
  rw [slicePick_cut, <- hlen]
  refine ⟨.ref s.heap.objs.size, _, I.laid (t' := s.toks) (o := .lst (cutV xs lo hi)) (fun b ob q => Heap.get?_push_of_some _ q) (Nat.le_refl _) ?_, rfl, q _ (I.hok.fresh (Nat.le_refl _))⟩
  exact ⟨Nat.le_trans (cutV_length xs lo hi) hz, _, 0, (r.drop (HT.sIx xs.length 0 lo)).take (HT.sIx xs.length xs.length hi - HT.sIx xs.length 0 lo), Heap.get?_push_size _ rfl⟩
def flatV : V -> Bool
  | .non => true
  | .bl _ => true
  | .int _ => true
  | .str _ => true
  | _ => false
def eqV : V -> V -> Bool
  | .non, .non => true
  | .bl a, .bl b => a == b
  | .bl a, .int b => (if a then 1 else 0) == b
  | .int a, .bl b => a == (if b then 1 else 0)
  | .int a, .int b => a == b
  | .str a, .str b => a == b
  | _, _ => false
theorem eqAt_V {A : Around} {s : Shared} {y x : V} {u v : Value} (ry : RelV y u) (rx : RelV x v) (fy : flatV y = true) (fx : flatV x = true) : SeqAt.EqAt A s u v (eqV y x) := by
  cases y with
  | non =>
    cases ry
    cases x with
    | non => cases rx; exact SeqAt.EqAt.same _
    | bl b => cases rx; exact SeqAt.EqAt.none_bool b
    | int b => obtain ⟨t, rfl⟩ := rx; exact SeqAt.EqAt.none_int b t
    | str b => obtain ⟨t, rfl⟩ := rx; exact SeqAt.EqAt.none_str b t
    | _ => exact absurd (show false = true from fx) Bool.false_ne_true
  | bl a =>
    cases ry
    cases x with
    | non => cases rx; exact SeqAt.EqAt.bool_none a
    | bl b => cases rx; exact SeqAt.EqAt.bool_bool a b
    | int b => obtain ⟨t, rfl⟩ := rx; exact SeqAt.EqAt.bool_int a b t
    | str b => obtain ⟨t, rfl⟩ := rx; exact SeqAt.EqAt.bool_str a b t
    | _ => exact absurd (show false = true from fx) Bool.false_ne_true
  | int a =>
    obtain ⟨t', rfl⟩ := ry
    cases x with
    | non => cases rx; exact SeqAt.EqAt.int_none a t'
    | bl b => cases rx; exact SeqAt.EqAt.int_bool a t' b
    | int b => obtain ⟨t, rfl⟩ := rx; exact SeqAt.EqAt.int_int a t' b t
    | str b => obtain ⟨t, rfl⟩ := rx; exact SeqAt.EqAt.int_str a t' b t
    | _ => exact absurd (show false = true from fx) Bool.false_ne_true
  | str a =>
    obtain ⟨t', rfl⟩ := ry
    cases x with
    | non => cases rx; exact SeqAt.EqAt.str_none a t'
    | bl b => cases rx; exact SeqAt.EqAt.str_bool a t' b
    | int b => obtain ⟨t, rfl⟩ := rx; exact SeqAt.EqAt.str_int a t' b t
    | str b => obtain ⟨t, rfl⟩ := rx; exact SeqAt.EqAt.str_str a t' b t
    | _ => exact absurd (show false = true from fx) Bool.false_ne_true
  | _ => exact absurd (show false = true from fy) Bool.false_ne_true
theorem call_len_seq : CallR X (.builtin "len") (fun xs H Q => ∃ p ys, xs = [.ref p] /\ (SqL X.K H p ys \/ SqT X.K H p ys) /\ Q (.int ys.length) H) := by
  intro pins s σ H xs us Q I r h
  obtain ⟨p, ys, rfl, hq, q⟩ := h
  obtain ⟨u, rfl, rx⟩ := vals1 r
  cases rx
  have hn := line63
  rcases hq with hq | hq
  · obtain ⟨its, r', pl, hz⟩ := I.list hq
    have hlen := r'.length
    exact Calls.call_len_list pl.isList (by simp only [List.size_toArray] <;> lia) ⟨.int ys.length, H, I.tok _, ⟨s.toks + 1, by rw [List.size_toArray, hlen]⟩, q⟩
  · obtain ⟨its, r', pl, hz⟩ := I.tuple hq
    have hlen := r'.length
    exact len_tuple pl (by simp only [List.size_toArray] <;> lia) ⟨.int ys.length, H, I.tok _, ⟨s.toks + 1, by rw [List.size_toArray, hlen]⟩, q⟩
theorem call_len_str : CallR X (.builtin "len") (fun xs H Q => ∃ z, xs = [.str z] /\ z.length <= sizeLine /\ Q (.int z.length) H) := by
  intro pins s σ H xs us Q I r h
  obtain ⟨z, rfl, hz, q⟩ := h
  obtain ⟨u, rfl, t, rfl⟩ := vals1 r
  have hn := line63
  exact len_str (by lia) ⟨.int z.length, H, I.tok _, ⟨_, rfl⟩, q⟩
theorem call_tuple_of : CallR X (.type "tuple") (fun xs H Q => ∃ p ys, xs = [.ref p] /\ ((SqL X.K H p ys /\ ∀ l, H l = none -> Q (.ref l) (upd H l (.tup ys))) \/ (SqT X.K H p ys /\ Q (.ref p) H))) := by
  intro pins s σ H xs us Q I r h
  obtain ⟨p, ys, rfl, h⟩ := h
  obtain ⟨u, rfl, rx⟩ := vals1 r
  cases rx
  rcases h with ⟨hq, q⟩ | ⟨hq, q⟩
  · obtain ⟨its, r', pl, hz⟩ := I.list hq
    have hlen := r'.length
    refine call_tuple_list pl.isList (fun h' kp => ?_) (by simp only [List.size_toArray] <;> lia)
    have I1 : Inv X pins σ H { s with heap := h' } := I.kept (t' := s.toks) kp
    have I2 : Inv X pins σ (upd H h'.objs.size (.tup ys)) { s with heap := h'.push { cls := .type "tuple", data := .seq its.toArray } } :=
      I1.laid (t' := s.toks) (fun b o e => Heap.get?_push_of_some _ e) (Nat.le_refl _) (show ObjOk X.prog X.w _ _ _ (.tup ys) from ⟨hz, its, r', IsTup.new _ _⟩)
    exact ⟨.ref h'.objs.size, _, I2, rfl, q _ (I1.hok.fresh (Nat.le_refl _))⟩
  · obtain ⟨its, r', pl, hz⟩ := I.tuple hq
    exact call_tuple_same pl ⟨.ref p, H, I, rfl, q⟩
def tyV (K : PySem.W.Frag) (T : String) (x : V) (H : Hp) : Prop := match x with
  | .str _ => T = "str"
  | .int _ => T = "int"
  | .ref p => (T = "list" /\ ∃ xs, SqL K H p xs) \/ (T = "tuple" /\ ∃ o, K.lookup p = some o /\ o.cls = .type "tuple" /\ o.dict = none) \/
      (T = "dict" /\ ((∃ kvs, H p = some (.dK kvs)) \/ ∃ kvs, H p = some (.dT kvs))) \/ (T = "set" /\ ∃ S n, H p = some (.set S n))
  | _ => False
theorem tyV_is {pins : List (Addr × Obj)} {σ : St} {H : Hp} {s : Shared} {T : String} {x : V} {v : Value} (I : Inv X pins σ H s) (r : RelV x v) (ty : tyV X.K T x H) :
    s.TypeIs v T /\ ∀ a, v = .ref a -> ∃ ob, s.heap.get? a = some ob /\ ob.dict = none := by
  cases x with
  | str z =>
    obtain ⟨t, rfl⟩ := r
    cases (show T = "str" from ty)
    exact ⟨typeIs_str s z t, fun _ e => nomatch e⟩
  | int i =>
    obtain ⟨t, rfl⟩ := r
    cases (show T = "int" from ty)
    exact ⟨typeIs_int s i t, fun _ e => nomatch e⟩
  | ref p =>
    cases r
    rcases ty with ⟨rfl, xs, hq⟩ | ⟨rfl, o, hk, hc, hd⟩ | ⟨rfl, hk⟩ | ⟨rfl, S, n, hk⟩
    · obtain ⟨its, _, pl, _⟩ := I.list hq
      refine ⟨pl.isList.typeIs, fun a e => ?_⟩
      cases e
      obtain ⟨o, n, e, c, hd, _⟩ := pl
      exact ⟨o, e, hd⟩
    · refine ⟨⟨o, I.kIn p o hk, hc⟩, fun a e => ?_⟩
      cases e
      exact ⟨o, I.kIn _ o hk, hd⟩
    · have z : ∃ o, s.heap.get? p = some o /\ o.ExactDict := by
        rcases hk with ⟨kvs, hk⟩ | ⟨kvs, hk⟩
        · obtain ⟨_, _, _, _, o, _, _, e, ex, _⟩ := I.hok p _ hk
          exact ⟨o, e, ex⟩
        · obtain ⟨_, _, _, _, o, _, _, e, ex, _⟩ := I.hok p _ hk
          exact ⟨o, e, ex⟩
      obtain ⟨o, e, ex⟩ := z
      refine ⟨⟨o, e, ex.1⟩, fun a e2 => ?_⟩
      cases e2
      exact ⟨o, e, ex.2.1⟩
    · obtain ⟨o, _, _, _, e, ex, _⟩ := I.hok p _ hk
      refine ⟨⟨o, e, ex.1⟩, fun a e2 => ?_⟩
      cases e2
      exact ⟨o, e, ex.2.1⟩
  | _ => exact False.elim ty
def tBM (K : PySem.W.Frag) (T : String) (r : V -> List V -> Hp -> VK -> Prop) (to : TE) (t : TA) : TE := fun σ H Q => to σ H fun x H1 => tyV K T x H1 /\ t σ H1 fun xs H2 => r x xs H2 Q
variable {o e : Expr} {es : List Expr} {to : TE} {t : TA} {name : Str} {apos cpos : Pos} {T id : String} {r : V -> List V -> Hp -> VK -> Prop}
theorem pe_bm (pa : PlainAttrs T) (slot : Slot T name id) (hty : typeOf (.builtin id) = pure (.type "method_descriptor")) (hm : MtR X id r) (ho : PE X o to) (ha : PA X (e :: es) t)
    (hbase : attributeBase o name X.env (eval o X.env) = eval o X.env := by rfl)
    (hfew : ((backTo cpos (starEach (e :: es) X.env)).all (fun x => !x.1) && (backToKw cpos (keywordEach [] X.env)).all (fun x => x.1.isSome)
      && decide ((e :: es).length + ([] : List Keyword).length + (if ([] : List Keyword).isEmpty then 0 else 1) < 30)) = true := by rfl)
    (hline : (apos.endLine == cpos.line) = true := by rfl) (hs : starEach (e :: es) X.env = (false, eval e X.env) :: starEach es X.env := by rfl) (hplain : (backTo cpos (starEach es X.env)).any (·.1) = false := by rfl) :
    PE X (.Call (.Attribute o name apos) (e :: es) [] cpos) (tBM X.K T r to t) := by
  intro pins s σ H Q I h
  refine wpAny_Call_method_late hbase hfew hline rfl (thn (ho pins s σ H _ I h) fun v s1 ⟨x, H1, I1, r1, ty, q1⟩ => ?_)
  obtain ⟨h1, h2⟩ := tyV_is I1 r1 ty
  refine ⟨T, id, pa, slot, hty, h1, h2, ?_⟩
  have hA := ha cpos pins s1 σ H1 _ I1 q1
  rw [hs] at hA ⊢
  refine Calls.callWith_builtin (by show (false || (backTo cpos (starEach es X.env)).any (·.1)) = false; rw [hplain] <;> rfl) (Calls.evalArgs_plain ?_)
  exact thn hA fun us s2 ⟨vs, H2, I2, r2, q2⟩ => hm pins s2 σ H2 x vs v us Q I2 r1 r2 q2
/- xs.append(e), list.index on a module's tuple .. are MtR facts of 06m -/
end
def MtM (X : Cx) (id : String) (r : V -> List V -> Hp -> VK -> Prop) : Prop :=
  ∀ (pins : List (Addr × Obj)) (s : Shared) (σ : St) (H : Hp) (x : V) (xs : List V) (v : Value) (us : List Value) (Q : VK), Inv X pins σ H s -> RelV x v -> Vals xs us -> r x xs H Q ->
    wpAny (model X.prog X.w) X.A (call (.builtin id) (v :: us)) (EP X pins σ Q) X.xe s
theorem Vals.one : ∀ {x : V} {us : List Value}, Vals [x] us -> ∃ u, us = [u] /\ RelV x u
  | _, _, .cons r .nil => ⟨_, rfl, r⟩
theorem Vals.two : ∀ {x y : V} {us : List Value}, Vals [x, y] us -> ∃ u v, us = [u, v] /\ RelV x u /\ RelV y v := by
  intro x y us h
  cases h with
  | cons r h => cases h with
    | cons q h => cases h; exact ⟨_, _, rfl, r, q⟩
theorem Vals.zero : ∀ {us : List Value}, Vals [] us -> us = []
  | _, .nil => rfl
section
variable {X : Cx} {pins : List (Addr × Obj)} {σ : St} {H : Hp} {s : Shared} {l b : Addr} {xs ys zs : List V}
theorem Inv.lset {its its' : List Value} {n : Nat} {f : Array Value -> Array Value} {t' : Nat} (I : Inv X pins σ H s) (hH : H l = some (.lst xs))
    (e : s.heap.get? l = some { cls := .type "list", data := .seq its.toArray n }) (hf : f its.toArray = its'.toArray) (hv : Vals ys its') (hz : ys.length <= sizeLine) :
    Inv X pins σ (upd H l (.lst ys)) { s with heap := s.heap.update l (Obj.mapSeq f), toks := t' } := by
  have q := PySem.IsL.update e f
  rw [hf] at q
  refine I.write (x := l) (e := l) (by rw [hH]; exact trivial) (.inl rfl) (fun b' u hb hu => (Heap.get?_update_other s.heap (Obj.mapSeq f) (Ne.symm hb)).trans hu) ⟨_, q⟩ ?_
  exact ⟨hz, its', _, hv, q⟩
theorem Inv.lnew {its : List Value} {t' : Nat} (I : Inv X pins σ H s) (hv : Vals ys its) (hz : ys.length <= sizeLine) :
    Inv X pins σ (upd H s.heap.objs.size (.lst ys)) { s with heap := s.heap.push { cls := .type "list", data := .seq its.toArray }, toks := t' } :=
  I.laid (fun _ _ q => Heap.get?_push_of_some _ q) (Nat.le_refl _) ⟨hz, its, 0, hv, Heap.get?_push_size _ rfl⟩
theorem Inv.fresh (I : Inv X pins σ H s) : H s.heap.objs.size = none := I.hok.fresh (Nat.le_refl _)
theorem Inv.lstM (I : Inv X pins σ H s) (hH : H l = some (.lst xs)) : xs.length <= sizeLine /\ ∃ (its : List Value) (n : Nat), Vals xs its /\ xs.length = its.length /\ s.heap.get? l = some { cls := .type "list", data := .seq its.toArray n } := by
  obtain ⟨z, its, n, r, e⟩ := I.hok l _ hH
  exact ⟨z, its, n, r, r.length, e⟩
end
section
variable {X : Cx}
def rAppend : V -> List V -> Hp -> VK -> Prop := fun x vs H Q => ∃ l xs y, x = .ref l /\ vs = [y] /\ H l = some (.lst xs) /\ xs.length < sizeLine /\ Q .non (upd H l (.lst (xs ++ [y])))
theorem mt_append : MtM X "list.append" rAppend := by
  intro pins s σ H x vs v us Q I rx rv h
  obtain ⟨l, xs, y, rfl, rfl, hH, hz, q⟩ := h
  cases rx
  obtain ⟨u, rfl, ru⟩ := rv.one
  obtain ⟨z, its, n, r, hl, e⟩ := I.lstM hH
  refine call_meets F.slot_list_append ⟨_, e, rfl⟩ F.entry_list_append (F.args_list_append_2 _ _) (PySem.list_append l its.toArray n u (by rw [List.size_toArray]; lia)) ⟨e, ?_⟩
  refine ⟨.non, _, I.lset (its' := its ++ [u]) hH e (by simp) (r.append (.cons ru .nil)) ?_, rfl, q⟩
  rw [List.length_append, List.length_singleton]
  lia
def rCat : R2 := fun x y H Q => ∃ l b xs zs, x = .ref l /\ y = .ref b /\ H l = some (.lst xs) /\ H b = some (.lst zs) /\ xs.length + zs.length <= sizeLine /\ ∀ p, H p = none -> Q (.ref p) (upd H p (.lst (xs ++ zs)))
theorem op_cat : OpR X (binaryOp .Add) rCat := by
  intro pins s σ H x y v u Q I rx ry h
  obtain ⟨l, b, xs, zs, rfl, rfl, hH, hB, hz, q⟩ := h
  cases rx
  cases ry
  obtain ⟨z, its, n, r, hl, e⟩ := I.lstM hH
  obtain ⟨z2, its2, n2, r2, hl2, e2⟩ := I.lstM hB
  refine PySem.P.add_list e e2 ?_ (by rw [List.size_toArray, List.size_toArray]; lia)
  have ea : its.toArray ++ its2.toArray = (its ++ its2).toArray := by simp
  rw [ea]
  exact ⟨.ref _, _, I.lnew (t' := s.toks) (r.append r2) (by rw [List.length_append]; lia), rfl, q _ I.fresh⟩
end
section
variable {prog : Program} {w : World} {A : Around} {E : Value -> Shared -> Prop} {s : Shared}
set_option maxRecDepth 100000 in
end
section
variable {X : Cx}
end
end L2
namespace Att
open PySem PySem.W PySem.Calls PyProof.Rows
theorem ints_of_wellAll {P : Params} {h : Heap} : ∀ (ns : List Int) (vs : List Value), WellAll P h vs (ns.map WData.int) -> IntsAre vs ns := by
  intro ns
  induction ns with
  | nil =>
    intro vs w
    rw [List.map_nil] at w
    cases w
    exact .nil
  | cons n ns ih =>
    intro vs w
    rw [List.map_cons] at w
    cases w with
    | cons a b =>
      cases a
      exact .cons _ _ (ih _ b)
theorem script_of {l : OpenLaw} {n : Nat} (hn : l.most = some n) {P : Params} {h : Heap} {args : List WData} {vals : List Value}
    (hpre : l.row.toRowW.claim.pre args = true) (hwl : WellAll P h vals args) :
    ∃ a vs ns, vals = [Value.ref a] /\ args = [WData.list (ns.map WData.int)] /\ h.get? a = some { cls := .type "list", data := .seq vs.toArray } /\ IntsAre vs ns /\ ns.length <= n := by
  have hsh : WShape.hasAll [] args [.list .int] = true := (pre_splitW hpre).1
  have hc : l.pre.holds [] { args := args } = true := (pre_splitW hpre).2
  obtain ⟨d, r, rfl, h1, h2⟩ := hasAllW_cons hsh
  obtain rfl := hasAllW_nil h2
  obtain ⟨xs, rfl, h3⟩ := hasW_list h1
  obtain ⟨ns, rfl⟩ := items_int h3
  have hlen : ns.length <= n := by
    unfold OpenLaw.pre at hc
    have h4 : (WTm.not (.lt (.lit (.int (n : Int))) (.len (.arg 0)))).holds [] { args := [.list (ns.map .int)] } = true := by
      have h4 := (holds_andW hc).1
      rw [hn] at h4
      exact h4
    have h5 := condW_of h4 (w_not (w_lt w_lit (w_len_list (w_arg rfl))))
    rw [List.length_map] at h5
    refine Nat.le_of_not_lt fun q => ?_
    have q' : (n : Int) < ((ns.length : Nat) : Int) := by lia
    first
      | (rw [decide_eq_true q'] at h5; exact absurd h5 (by decide))
      | (simp at h5; lia)
  cases hwl with
  | cons w1 w2 =>
    cases w2
    cases w1 with
    | list ho hall => exact ⟨_, _, ns, rfl, rfl, ho, ints_of_wellAll ns _ hall, hlen⟩
theorem post_true (l : OpenLaw) (args : List WData) : l.row.toRowW.claim.post args (.bool true) args = true :=
  postW_of (r := l.row.toRowW) (X := (true == true))
    (show WShape.has [] (.bool true) .bool = true by first | rfl | decide | simp [WShape.has, WShape.arms, WShape.armsAll])
    (show (WTm.eq .res (.lit (.bool true))).value [] { args := args, res := some (.bool true), after := args } = some (.bool (true == true)) from w_eq_bool (w_res rfl) w_lit) rfl
theorem attach_call {l : OpenLaw} {n : Nat} {q : Program} {loose : List Str} {XP : (Str -> Option Value) -> Heap -> Prop} {YP : World -> Heap -> Prop} {d : DefRec}
    (hn : l.most = some n) (hdf : d.params.defaults = [])
    (call : ∀ (w : World) (s₀ s₁ : Shared) (mg mb : Str -> Option Value) (fa : Addr) (o : Obj) (pm cd doc : Value) (a : Addr) (vs : List Value) (ns : List Int),
      Ground q loose [] XP w s₀ mg mb s₁.heap -> YP w s₁.heap ->
      s₁.heap.get? fa = some o -> o.data = .func (docDef d.name d.params d.body d.scope pm cd doc) -> s₁.heap.CodeRec cd d.name -> mg d.name = some (.ref fa) ->
      s₁.heap.get? a = some { cls := .type "list", data := .seq vs.toArray } -> IntsAre vs ns -> ns.length <= n -> s₁.gens = #[] ->
      codeAny (model l.prog w) callerA (.call (.ref fa) ⟨[.ref a], []⟩) (fun r s' => r = .ok (.ret (.bool true)) /\ OldK s₁.heap s'.heap /\ s'.os = s₁.os /\ AllBare s'.gens) s₁) :
    WalkO q loose XP YP l.row.toRowW d [] (fun f vs => PySem.call f vs) := by
  intro w s₀ s₁ mg mb G Y fa o pm cd doc dV kV ho hd hcd hD hmg hg args vals as hpre hlay hrd hwl hlo
  obtain rfl : dV = .none := Dflts.none hD hdf
  obtain rfl : kV = .none := Dflts.noKw hD
  obtain ⟨a, vs, ns, rfl, rfl, hobj, hints, hlen⟩ := script_of hn hpre hwl
  refine enter_call (codeAny_mono (call w s₀ s₁ mg mb fa o pm cd doc a vs ns G Y ho (fd_plain hd) hcd hmg hobj hints hlen hg) fun r s' hq => ?_)
  obtain ⟨rfl, h2, h3, h4⟩ := hq
  exact ⟨.inl ⟨.bool true, .bool true, [], rfl, fun _ => rfl, .bool true, post_true l _, fun _ => ⟨List.Pairwise.nil, fun _ hm => (nomatch hm)⟩⟩, h2, h3, h4⟩
section
variable {prog : Program} {w : World} {A : Around} {E : Value -> Shared -> Prop} {s : Shared} {K : Frag}
end
end Att
namespace L2
open PySem PySem.Spec PyProof.Rows
theorem vals_ints : ∀ {vs : List Value} {ns : List Int}, IntsAre vs ns -> Vals (ns.map V.int) vs
  | _, _, .nil => .nil
  | _, _, .cons n t h => .cons ⟨t, rfl⟩ (vals_ints h)
def Only (H : Hp) : Prop := ∀ b, H b = none \/ ∃ o xs, H b = some (.frz o (.lst xs))
theorem law_call {P : Program} {w : World} {K : PySem.W.Frag} {mg mb : Str -> Option Value} {CX : CXT} {k : Nat} {fa a : Addr} {fd : FuncData} {x : Str} {sp : Sp} {s₁ : Shared} {vs : List Value} {ns : List Int}
    (KX : K.In s₁.heap) (hns : s₁.heap.Ns mainGlobals mg) (hb : s₁.heap.Ns builtinsNs mb) (hbb : ∀ x : Str, x ≠ "__name__" -> mb x = bootBuiltins x) (hlim : s₁.heap.NoLimit) (hg : s₁.gens = #[])
    (ha : s₁.heap.get? a = some { cls := .type "list", data := .seq vs.toArray }) (hi : IntsAre vs ns) (hl : ns.length <= sizeLine) (hr : Room k callerA)
    (F : ∀ base : Heap, K.In base -> base.Ns mainGlobals mg -> FnOk P w K mg base CX k fa fd [x] sp) (hbind : ∀ (s : Shared) (u : Value), BindsTo s fd ⟨[u], []⟩ [(x, u)])
    (hsp : ∀ H : Hp, Only H -> SqL K H a (ns.map V.int) -> sp [.ref a] H (fun v _ => v = .bl true) fun _ _ _ => False)
    (hCX : ∀ H e s', CX [] H s₁ (fun _ _ _ => False) e s' -> False) :
    codeAny (model P w) callerA (.call (.ref fa) ⟨[.ref a], []⟩) (fun r s' => r = .ok (.ret (.bool true)) /\ OldK s₁.heap s'.heap /\ s'.os = s₁.os /\ AllBare s'.gens) s₁ := by
  have rv := vals_ints hi
  have lenV := hi.length
  have core : ∀ H : Hp, Only H -> SqL K H a (ns.map V.int) -> HOk P w H s₁.heap -> (∀ b, H b ≠ none -> b = a) -> (H a ≠ none -> K.lookup a = none) ->
      codeAny (model P w) callerA (.call (.ref fa) ⟨[.ref a], []⟩) (fun r s' => r = .ok (.ret (.bool true)) /\ OldK s₁.heap s'.heap /\ s'.os = s₁.os /\ AllBare s'.gens) s₁ := by
    intro H hO hS hok hA hK
    have base_of : ∀ {b : Addr} {o : Obj}, s₁.heap.get? b = some o -> H b = none -> (hidT s₁.heap H).get? b = some o := fun e n => hidT_get e n
    have noA : ∀ {b : Addr} {o : Obj} {es : Array DictEntry} {ep : Nat}, s₁.heap.get? b = some o -> o.data = .dict es ep -> H b = none := fun {b o es ep} e d => by
      cases q : H b with
      | none => rfl
      | some u =>
        have e' : b = a := hA b (by rw [q]; simp)
        subst e'
        rw [ha] at e; cases e
        have d' : Data.seq vs.toArray _ = Data.dict es ep := d
        cases d'
    have nsK : ∀ {b : Addr} {m : Str -> Option Value}, s₁.heap.Ns b m -> (hidT s₁.heap H).Ns b m := fun {b m} ⟨o, es, ep, e, d, r⟩ => ⟨o, es, ep, base_of e (noA e d), d, r⟩
    have hKb : K.In (hidT s₁.heap H) := fun b o e => base_of (KX b o e) (by
      cases q : H b with
      | none => rfl
      | some u =>
        have e' : b = a := hA b (by rw [q]; simp)
        subst e'
        rw [hK (by rw [q]; simp)] at e; cases e)
    have hM : Mod K mg (hidT s₁.heap H) := ⟨hKb, nsK hns, ⟨mb, nsK hb, hbb⟩, let ⟨mc, h1, h2⟩ := hlim; ⟨mc, nsK h1, h2⟩⟩
    have e0 : Env0 P w K mg (hidT s₁.heap H) callerA [] s₁ H := ⟨rfl, hM, fun b o e => of_hidT e, Nat.le_of_eq (hidT_size _ _), trivial, fun b hb => absurd (show b ∈ ([] : List Addr) from hb) (by simp), hok, .of_eq hg⟩
    refine codeAny_mono ((F _ hKb (nsK hns)).run callerA [] s₁ H ⟨[.ref a], []⟩ [.ref a] [.ref a] _ _ hr e0 (hbind s₁ (.ref a)) (.cons rfl .nil) (hsp H hO hS)) fun r s' h => ?_
    cases r with
    | error e => exact (hCX H e s' h).elim
    | ok fl =>
      cases fl with
      | next => exact False.elim h
      | brk => exact False.elim h
      | cont => exact False.elim h
      | ret u =>
        obtain ⟨v, H', os, bare, un, hok', r', q⟩ := h
        have q' : v = .bl true := q
        subst q'
        obtain rfl : u = Value.bool true := r'
        refine ⟨rfl, OldK.of_keep fun b o e => ?_, os, bare⟩
        cases q : H b with
        | none => exact un.keep b o e q (by intro z; exact absurd (show b ∈ ([] : List Addr) from z) (by simp)) (by simp)
        | some u =>
          rcases hO b with z | ⟨ob, xs, z⟩
          · rw [q] at z; cases z
          · have z2 := un.frzs b ob _ z
            obtain ⟨e1, _⟩ := hok b _ z
            obtain ⟨e2, _⟩ := hok' b _ z2
            rw [e] at e1; cases e1
            exact e2
  cases hk : K.lookup a with
  | some o =>
    have e := KX a o hk
    rw [ha] at e
    cases e
    refine core (fun _ => none) (fun _ => .inl rfl) (.inr ⟨_, vs.toArray, _, hk, rfl, rfl, rfl, by rw [List.size_toArray, lenV]; exact hl, by simpa using rv⟩) (fun b u z => by have z' : (none : Option HO) = some u := z; cases z') (fun b z => absurd rfl z) fun z => absurd rfl z
  | none =>
    refine core (fun b => if b = a then some (.frz { cls := .type "list", data := .seq vs.toArray } (.lst (ns.map V.int))) else none) (fun b => ?_) (.inl (.inr ⟨{ cls := .type "list", data := .seq vs.toArray }, if_pos rfl⟩)) (fun b u z => ?_) (fun b z => ?_) fun _ => hk
    · by_cases hb : b = a
      · exact .inr ⟨_, _, if_pos hb⟩
      · exact .inl (if_neg hb)
    · by_cases hb : b = a
      · have z' := (if_pos hb).symm.trans z
        cases z'
        subst hb
        exact ⟨ha, by rw [List.length_map]; exact hl, vs, _, rv, ha⟩
      · have z' := (if_neg hb).symm.trans z
        cases z'
    · by_cases hb : b = a
      · exact hb
      · exact absurd (if_neg hb) z
abbrev KOf {K : PySem.W.Frag} {h : Heap} (_ : K.In h) : PySem.W.Frag := K
theorem walk_of {l : PySem.W.OpenLaw} {n k : Nat} {q : Program} {loose : List Str} {XP : (Str -> Option Value) -> Heap -> Prop} {YP : World -> Heap -> Prop} {d : DefRec} {K : Params -> PySem.W.Frag} {CX : World -> CXT} {sp : World -> Sp} {x : Str}
    (hn : l.most = some n) (hn2 : n <= sizeLine) (hdf : d.params.defaults = []) (hr : Room k callerA)
    (hY : ∀ (w : World) (h : Heap), YP w h -> (K w.params).In h)
    (F : ∀ (w : World) (mg : Str -> Option Value) (fa : Addr) (h : Heap), (K w.params).In h -> h.Ns mainGlobals mg -> mg d.name = some (.ref fa) ->
      ∃ fd : FuncData, (∀ (s : Shared) (u : Value), BindsTo s fd ⟨[u], []⟩ [(x, u)]) /\
        ∀ base : Heap, (K w.params).In base -> base.Ns mainGlobals mg -> FnOk l.prog w (K w.params) mg base (CX w) k fa fd [x] (sp w))
    (hsp : ∀ (w : World) (H : Hp) (a : Addr) (ns : List Int), ns.length <= n -> Only H -> SqL (K w.params) H a (ns.map V.int) -> sp w [.ref a] H (fun v _ => v = .bl true) fun _ _ _ => False)
    (hCX : ∀ (w : World) (H : Hp) (s : Shared) (e : Value) (s' : Shared), CX w [] H s (fun _ _ _ => False) e s' -> False) :
    PySem.W.WalkO q loose XP YP l.row.toRowW d [] (fun f vs => PySem.call f vs) := by
  refine Att.attach_call hn hdf fun w s₀ s₁ mg mb fa o pm cd doc a vs ns G Y ho hd hcd hmg hobj hints hlen hg => ?_
  have KX := hY w _ Y
  obtain ⟨fd, hb, hF⟩ := F w mg fa _ KX G.T.g hmg
  exact law_call KX G.T.g G.T.b G.T.builtins G.T.nolimit hg hobj hints (Nat.le_trans hlen hn2) hr hF hb (fun H hO hS => hsp w H a ns hlen hO hS) fun H e s' => hCX w H s₁ e s'
end L2
/- THE LAST THEOREM (shape; LID, My.* are yours):
   My.Adr: a structure of the addresses that your layer names (classes, functions); My.Txt K t: a structure (Prop) of the equations over K;
   My.txt_mk : {K} {implicit addresses ..} (e1 : nsIn K mainGlobals "law" = some (some (.ref f))) (e2 : K.lookup f = some ⟨oc, od, .func (fnOf "law" "law" params body scope dV kV doc pm an cdv ct), sl⟩) (e3 : codeIn K cdv "law" = true) .. : ∃ t, My.Txt K t
set_option maxRecDepth 100000 in
set_option maxHeartbeats 0 in
theorem PySem.Challenge.cw_LID_holds : PySem.Challenge.rw_LID.Holds := by
  w_on; o_law; k_head; (case hw => w_witness2)
  k_fill
  refine L2.walk_of (l := PySem.Challenge.rw_LID) (n := 63) (k := 40) (x := "script") (CX := fun w => ..) (sp := fun _ => My.sp_law) rfl (by decide) rfl ⟨rfl, by decide, by decide⟩ (fun w h Y => PySem.W.kIn_of Y) ?F ?S ?C
  case F =>
    intro w mg fa h KX G hmg
    have T : ∃ t, My.Txt (L2.KOf KX) t := by
      dsimp only [L2.KOf]                          -- K must stand as «<heap const> w.params» for k_is
      refine' My.txt_mk ?e1 ?e2 ?e3 ..
      (case e1 => PySem.W.k_is)                    -- in the order: a name -> its address -> its object -> its parts
      (case e2 => PySem.W.k_is)
      ..
    obtain ⟨t, T⟩ := T
    have e0 := hmg.symm.trans (PySem.W.mg_of KX G T.law)
    cases e0                                       -- fa is the law's own address
    exact ⟨_, fun s u => .of_eq rfl, fun base kb nb => My.law_fn T kb nb⟩     -- if «.of_eq rfl» comes too early: refine' ⟨_, ?b, fun base kb nb => My.law_fn T kb nb⟩; exact fun s u => .of_eq rfl
  case S => exact fun w H a ns hl hO hS => ..
  case C => exact ..
(the tactic k_is has no namespace: write k_is) -/
namespace L2
open PySem PySem.Spec PyProof.Rows
def defArgs (s : Stmt) : Arguments := match s with
  | .FunctionDef _ a _ _ _ _ _ _ _ _ => a
  | _ => { posonlyargs := [], args := [], vararg := none, kwonlyargs := [], kw_defaults := [], kwarg := none, defaults := [] }
def defBody (s : Stmt) : List Stmt := match s with
  | .FunctionDef _ _ b _ _ _ _ _ _ _ => b
  | _ => []
def defScope (s : Stmt) : Scope := match s with
  | .FunctionDef _ _ _ _ _ _ sc _ _ _ => sc
  | _ => { kind := .function, names := [], isGenerator := false, isCoroutine := false }
abbrev CX0 : CXT := fun _ _ _ _ _ _ => False
abbrev E0 : XK := fun _ _ _ => False
theorem pass0 {X : Cx} : Passes CX0 X E0 := fun _ _ _ _ _ _ _ h => h.elim
structure Fun (K : PySem.W.Frag) (x qual : Str) (st : Stmt) (f : Addr) (fd : FuncData) : Prop where
  ex : ∃ (oc : Value) (od : Option Addr) (kV doc pm : Value) (an : Option Addr) (cdv ct : Value) (osl : Array (Option Value)),
    fd = PySem.W.fnOf x qual (defArgs st) (defBody st) (defScope st) .none kV doc pm an cdv ct /\ K.lookup f = some ⟨oc, od, .func fd, osl⟩ /\ PySem.W.codeIn K cdv qual = true
  kp : PySem.W.keepIn K (.ref f) = true
section
variable {P : Program} {w : World} {K : PySem.W.Frag} {mg : Str -> Option Value} {base : Heap}
theorem Fun.ok {x qual : Str} {st : Stmt} {f : Addr} {fd : FuncData} {N ps : List Str} {k : Nat} {sp : Sp} (F : Fun K x qual st f fd) (S : FnScope N ps (defScope st)) (len : ∀ vs H Q E, sp vs H Q E -> vs.length = ps.length)
    (hbody : ∀ (cdv : Value) (A : Around) (outer : List Env) (s : Shared) (H : Hp) (vs : List V) (Q : VK) (E : XK), Room k (A.deeper (envOfC qual (defScope st) s.heap.objs.size f cdv)) -> sp vs H Q E ->
      ∃ t, PSs (cxOf CX0 P w K mg base N qual (defScope st) f cdv A outer s H E).nox (defBody st) t /\ t { nx := fun _ H' => Q .non H', rt := Q } (start N vs) H) : FnOk P w K mg base CX0 (k + 1) f fd ps sp := by
  obtain ⟨oc, od, kV, doc, pm, an, cdv, ct, osl, rfl, lk, hcd⟩ := F.ex
  refine fn_of lk hcd S len fun A outer s H vs Q E hr hsp => ?_
  obtain ⟨t, h, q⟩ := hbody cdv A outer s H vs Q E hr hsp
  exact ⟨t, h.nox, q⟩
theorem Fun.binds {x qual : Str} {st : Stmt} {f : Addr} {fd : FuncData} {ps : List Str} (F : Fun K x qual st f fd)
    (h : ∀ (kV doc pm : Value) (an : Option Addr) (cdv ct : Value) (us : List Value), us.length = ps.length -> bindArgs (PySem.W.fnOf x qual (defArgs st) (defBody st) (defScope st) .none kV doc pm an cdv ct) ⟨us, []⟩ = pure (ps.zip us)) : Binds K fd ps [] := by
  obtain ⟨oc, od, kV, doc, pm, an, cdv, ct, osl, rfl, lk, hcd⟩ := F.ex
  exact .all (h kV doc pm an cdv ct)
theorem fun_mk {x qual : Str} {st : Stmt} {f : Addr} {oc : Value} {od an : Option Addr} {osl : Array (Option Value)} {kV doc pm cdv ct : Value} (l : K.lookup f = some ⟨oc, od, .func (PySem.W.fnOf x qual (defArgs st) (defBody st) (defScope st) .none kV doc pm an cdv ct), osl⟩)
    (c : PySem.W.codeIn K cdv qual = true) (k : PySem.W.keepIn K (.ref f) = true) : Fun K x qual st f (PySem.W.fnOf x qual (defArgs st) (defBody st) (defScope st) .none kV doc pm an cdv ct) := ⟨⟨oc, od, kV, doc, pm, an, cdv, ct, osl, rfl, l, c⟩, k⟩
end
theorem hu_of {A : Around} {k : Nat} (hr : Room k A) : A.units + 1 < cLine := Nat.lt_of_le_of_lt (Nat.add_le_add_left (by decide : 1 <= 64) _) hr.units
section
variable {X : Cx}
theorem pv (i : Nat) {x : Str} {pos : Pos} (hN : X.N[i]? = some x := by rfl) (hv : Vis X.env.scope x := by first | exact Or.inl rfl | exact Or.inr (Or.inl rfl) | exact Or.inr (Or.inr rfl)) (hd : (x == ("__debug__" : Str)) = false := by decide)
    (hcd : (x == ("__classdict__" : Str)) = false := by decide) : PE X (.Name x pos) (tVar i) := pe_var hN hv hd hcd
end
theorem iteF {A B : Prop} (h : B) : if false = true then A else B := by
  rw [if_neg Bool.false_ne_true]
  exact h
theorem iteT {A B : Prop} (h : A) : if true = true then A else B := by
  rw [if_pos rfl]
  exact h
theorem ite2 {c A B : Prop} [Decidable c] (h1 : c -> A) (h2 : ¬ c -> B) : if c then A else B := by
  by_cases h : c
  · rw [if_pos h]
    exact h1 h
  · rw [if_neg h]
    exact h2 h
def Same (H H' : Hp) : Prop := ∀ b o, H b = some o -> H' b = some o
theorem Same.refl (H : Hp) : Same H H := fun _ _ h => h
theorem Same.trans {H H1 H2 : Hp} (a : Same H H1) (b : Same H1 H2) : Same H H2 := fun c o h => b c o (a c o h)
theorem Same.seq {K : PySem.W.Frag} {H H' : Hp} {a : Addr} {xs : List V} (e : Same H H') (h : SqL K H a xs) : SqL K H' a xs := by
  rcases h with (h | ⟨o, h⟩) | h
  · exact .inl (.inl (e _ _ h))
  · exact .inl (.inr ⟨o, e _ _ h⟩)
  · exact .inr h
def PIfs (X : Cx) (ifs : List Expr) (t : TT) : Prop :=
  ∀ (pins : List (Addr × Obj)) (s : Shared) (σ : St) (H : Hp) (Q : Bool -> Hp -> Prop), Inv X pins σ H s -> t σ H Q ->
    wpAny (model X.prog X.w) X.A (forIn ifs true fun c r => if r = true then do
      let ok <- isTrue c X.env (eval c X.env)
      pure (ForInStep.yield ok) else pure (ForInStep.yield r)) (TP X pins σ Q) X.xe s
def tYes : TT := fun _ H Q => Q true H
theorem pifs_nil {X : Cx} : PIfs X [] tYes := fun _ _ _ H _ I h => wpAny_tests_nil ⟨H, I, h⟩
theorem pifs_one {X : Cx} {c : Expr} {t : TT} (h : PT X c t) : PIfs X [c] t := fun pins s σ H Q I hw => wpAny_tests_one (h pins s σ H Q I hw)
def clOf (env : Env) : List (Str × NameKind) -> List (Str × Addr) -> List (Str × Addr)
  | [], cs => cs
  | (n, k) :: r, cs => clOf env r (if (k == NameKind.free) = true then (n, (env.cells.lookup n).getD 0) :: cs else cs)
theorem clOf_loop {env : Env} : ∀ (names : List (Str × NameKind)) (cs : List (Str × Addr)), (∀ x ∈ names, x.2 = .free -> ∃ c, env.cells.lookup x.1 = some c) ->
    (forIn names cs fun (x : Str × NameKind) (r : List (Str × Addr)) => (if (x.2 == NameKind.free) = true then do
      let a <- cellOf env x.1
      pure (ForInStep.yield ((x.1, a) :: r)) else pure (ForInStep.yield r) : Sem (ForInStep (List (Str × Addr))))) = pure (clOf env names cs)
  | [], cs, _ => rfl
  | (n, k) :: r, cs, h => by
    rw [List.forIn_cons]
    by_cases hk : (k == NameKind.free) = true
    · obtain ⟨c, hc⟩ := h (n, k) List.mem_cons_self (by simpa using hk)
      have hc' : env.cells.lookup n = some c := hc
      have e1 : cellOf env n = pure c := by unfold cellOf; rw [hc']
      simp only [hk, if_true, e1, pure_bind]
      rw [clOf_loop r _ fun x hx => h x (List.mem_cons_of_mem _ hx)]
      simp [clOf, hk, hc']
    · simp only [hk, pure_bind]
      rw [if_neg (by simp), pure_bind]
      dsimp only
      rw [clOf_loop r _ fun x hx => h x (List.mem_cons_of_mem _ hx)]
      simp [clOf, hk]
theorem closure_is {scope : Scope} {env : Env} (h : ∀ x ∈ scope.names, x.2 = .free -> ∃ c, env.cells.lookup x.1 = some c) : closureFor scope env = pure (clOf env scope.names []) := by
  have e := clOf_loop scope.names [] h
  simp only [closureFor]
  first
    | (rw [e]; rfl)
    | (refine Eq.trans (congrArg (fun t => t >>= _) e) ?_; rfl)
    | (simp only [e]; rfl)
theorem clOf_get {env : Env} {x : Str} {c : Addr} : ∀ (names : List (Str × NameKind)) (cs : List (Str × Addr)), (∀ y ∈ names, y.2 = .free -> ∃ d, env.cells.lookup y.1 = some d) ->
    (clOf env names cs).lookup x = some c -> cs.lookup x = some c \/ env.cells.lookup x = some c
  | [], cs, _, e => .inl e
  | (n, k) :: r, cs, h, e => by
    have e' : (clOf env r (if (k == NameKind.free) = true then (n, (env.cells.lookup n).getD 0) :: cs else cs)).lookup x = some c := e
    rcases clOf_get r _ (fun y hy => h y (List.mem_cons_of_mem _ hy)) e' with q | q
    · by_cases hk : (k == NameKind.free) = true
      · rw [if_pos hk] at q
        obtain ⟨d, hd⟩ := h (n, k) List.mem_cons_self (by simpa using hk)
        have hd' : env.cells.lookup n = some d := hd
        rw [List.lookup_cons] at q
        by_cases hx : (x == n) = true
        · rw [hx] at q
          have ex : x = n := by simpa using hx
          subst ex
          rw [hd'] at q
          simp at q
          exact .inr (by rw [hd', q])
        · simp only [hx] at q
          exact .inl q
      · rw [if_neg hk] at q
        exact .inl q
    · exact .inr q
theorem clOf_keep {env : Env} {x : Str} : ∀ (names : List (Str × NameKind)) (cs : List (Str × Addr)), (∃ c, cs.lookup x = some c) -> ∃ c, (clOf env names cs).lookup x = some c
  | [], cs, h => h
  | (n, k) :: r, cs, h => by
    refine clOf_keep r _ ?_
    by_cases hk : (k == NameKind.free) = true
    · rw [if_pos hk, List.lookup_cons]
      cases hx : x == n with
      | true => exact ⟨_, rfl⟩
      | false => exact h
    · rw [if_neg hk]; exact h
theorem clOf_has {env : Env} {x : Str} : ∀ (names : List (Str × NameKind)) (cs : List (Str × Addr)), (x, NameKind.free) ∈ names -> ∃ c, (clOf env names cs).lookup x = some c
  | (n, k) :: r, cs, h => by
    show ∃ c, (clOf env r (if (k == NameKind.free) = true then (n, (env.cells.lookup n).getD 0) :: cs else cs)).lookup x = some c
    rcases List.mem_cons.mp h with e | e
    · cases e
      refine clOf_keep r _ ⟨(env.cells.lookup x).getD 0, ?_⟩
      rw [if_pos (by rfl), List.lookup_cons]
      simp
    · exact clOf_has r _ e
def relN (env : Env) (names : List (Str × NameKind)) : List (Str × NameKind) :=
  names.map fun (n, k) => if (k == NameKind.free && env.scope.kind == .function && env.kindOf n == some .cell) then (n, NameKind.cell) else (n, k)
theorem relN_get {env : Env} {x : Str} {k' : NameKind} : ∀ (names : List (Str × NameKind)), (relN env names).lookup x = some k' -> ∃ k, names.lookup x = some k /\ (k' = k \/ (k = .free /\ k' = .cell))
  | [], h => by simp [relN] at h
  | (n, k) :: r, h => by
    have ih := relN_get (env := env) (x := x) (k' := k') r
    have h' : ((if (k == NameKind.free && env.scope.kind == .function && env.kindOf n == some .cell) = true then (n, NameKind.cell) else (n, k)) :: relN env r).lookup x = some k' := h
    by_cases hc : (k == NameKind.free && env.scope.kind == .function && env.kindOf n == some .cell) = true
    · rw [if_pos hc, List.lookup_cons] at h'
      rw [List.lookup_cons]
      cases hx : x == n with
      | true =>
        rw [hx] at h'
        have h2 : NameKind.cell = k' := Option.some.inj h'
        have hk : k = .free := by
          cases k <;> first | rfl | (simp at hc)
        exact ⟨k, rfl, .inr ⟨hk, h2.symm⟩⟩
      | false =>
        rw [hx] at h'
        exact ih h'
    · rw [if_neg hc, List.lookup_cons] at h'
      rw [List.lookup_cons]
      cases hx : x == n with
      | true =>
        rw [hx] at h'
        exact ⟨k, rfl, .inl (Option.some.inj h').symm⟩
      | false =>
        rw [hx] at h'
        exact ih h'
def cxComp (X : Cx) (scope : Scope) (N' : List Str) (fp : List Addr) (C : Addr) (s : Shared) (H : Hp) : Cx where
  prog := X.prog
  w := X.w
  K := X.K
  mg := X.mg
  base := X.base
  A := X.A
  N := N'
  s₀ := s
  H₀ := H
  env := compEnvC scope (clOf X.env scope.names []) C X.env
  outer := X.stack
  stack := X.stack
  ex := fp
  fn := fun _ => false
  calm := true
  pn := X.pn
  xe := fun _ _ => False
def stComp (fr : List (Option Nat)) (σ : St) : St := fr.map fun o => o.bind fun j => (σ[j]?).join
def frOk (N : List Str) (kinds names : List (Str × NameKind)) (N' : List Str) (fr : List (Option Nat)) : Bool :=
  (N'.length == fr.length) && (N'.zip fr).all fun p => match p.2 with
    | none => true
    | some j => N[j]? == some p.1 && names.lookup p.1 == some NameKind.free && (kinds.lookup p.1 == some NameKind.cell || kinds.lookup p.1 == some NameKind.free)
theorem frOk_at {N : List Str} {kinds names : List (Str × NameKind)} {N' : List Str} {fr : List (Option Nat)} (h : frOk N kinds names N' fr = true) {i j : Nat} {x : Str} (h1 : N'[i]? = some x) (h2 : fr[i]? = some (some j)) :
    N[j]? = some x /\ names.lookup x = some NameKind.free /\ (kinds.lookup x = some NameKind.cell \/ kinds.lookup x = some NameKind.free) := by
  unfold frOk at h
  rw [Bool.and_eq_true, List.all_eq_true] at h
  have hm : (x, some j) ∈ N'.zip fr := by
    refine List.mem_of_getElem? (i := i) ?_
    rw [List.getElem?_zip_eq_some]
    exact ⟨h1, h2⟩
  have q := h.2 _ hm
  simp only [Bool.and_eq_true, Bool.or_eq_true, beq_iff_eq] at q
  exact ⟨q.1.1, q.1.2, q.2⟩
structure CompOk (X : Cx) (scope : Scope) (N' : List Str) (fr : List (Option Nat)) : Prop where
  kind : scope.kind = .function
  cells : ∀ y ∈ scope.names, y.2 ≠ .cell
  names : ∀ y ∈ scope.names, y.2 = .local -> scope.names.lookup y.1 = some .local
  frees : ∀ y ∈ scope.names, y.2 = .free -> X.env.kindOf y.1 = some .cell \/ X.env.kindOf y.1 = some .free
  fr : frOk X.N X.env.scope.names scope.names N' fr = true
section
variable {X : Cx} {scope : Scope} {N' : List Str} {fr : List (Option Nat)} {pins : List (Addr × Obj)} {σ : St} {H : Hp} {s : Shared} {fp : List Addr}
theorem CompOk.has (c : CompOk X scope N' fr) (ok : X.Ok) : ∀ y ∈ scope.names, y.2 = .free -> ∃ d, X.env.cells.lookup y.1 = some d := fun y hy h => ok.has _ (c.frees y hy h)
theorem inv_comp {C : Addr} {h' : Heap} {tk : Nat} {m : Str -> Option Value} (c : CompOk X scope N' fr) (hc : X.calm = true) (I : Inv X pins σ H s) (hf : ∀ b ∈ fp, FpOk X pins H b) (hlt : ∀ b ∈ fp, b < s.heap.objs.size)
    (old : ∀ b o, s.heap.get? b = some o -> h'.get? b = some o) (hC : s.heap.objs.size <= C) (hn : h'.Ns C m) :
    Inv (cxComp X scope N' fp C s H) pins (stComp fr σ) H { s with heap := h', toks := tk } := by
  have get : ∀ x d, (clOf X.env scope.names []).lookup x = some d -> X.env.cells.lookup x = some d := fun x d e => by
    rcases clOf_get scope.names [] (c.has I.ok) e with q | q
    · simp at q
    · exact q
  have old2 : ∀ b, b < s.heap.objs.size -> b ≠ C := fun b hb => Nat.ne_of_lt (Nat.lt_of_lt_of_le hb hC)
  have hl : (stComp fr σ).length = N'.length := by
    have q := c.fr
    unfold frOk at q
    rw [Bool.and_eq_true] at q
    have q1 : N'.length = fr.length := by simpa using q.1
    rw [stComp, List.length_map, q1]
  refine ⟨⟨I.ok.mod, c.kind, I.ok.glob, I.ok.blt, hC, ?_, ?_, (fun _ _ z => nomatch z), fun _ => I.ok.hd hc, I.ok.frames, .inl rfl, ?_, I.bs, Nat.le_trans I.ok.bsz I.sz, ?_, ?_, I.stack, I.stkFree⟩, rfl, I.bare, Un.kept old, ⟨m, hn, ?_⟩, ?_, I.hok.fresh hC, ?_, ?_, I.hok.kept old, hl⟩
  · exact fun x y d e1 e2 => I.ok.inj x y d (get x d e1) (get y d e2)
  · intro x hx
    have hx' : (relN X.env scope.names).lookup x = some .cell \/ (relN X.env scope.names).lookup x = some .free := hx
    have fin : scope.names.lookup x = some .free -> ∃ d, (clOf X.env scope.names []).lookup x = some d := fun e => clOf_has scope.names [] (PySem.mem_of_lookup e)
    rcases hx' with q | q
    · obtain ⟨k, e, z⟩ := relN_get scope.names q
      rcases z with z | ⟨z, _⟩
      · subst z
        exact absurd rfl (c.cells _ (PySem.mem_of_lookup e))
      · subst z
        exact fin e
    · obtain ⟨k, e, z⟩ := relN_get scope.names q
      rcases z with z | ⟨_, z⟩
      · subst z
        exact fin e
      · cases z
  · exact fun b hb => ⟨old2 b (hlt b hb), fun x d e => (hf b hb).2.2.2.2.1 x d (get x d e)⟩
  · intro b o e hb
    rcases (hf b hb).2.2.2.1 with z | z
    · exact I.ok.noex b o e z
    · exact absurd (Nat.lt_of_lt_of_le (Heap.lt_size e) (Nat.le_trans I.ok.bsz z)) (Nat.lt_irrefl _)
  · intro b hb hs
    rcases List.mem_cons.mp (I.stkSub b hs) with z | z
    · exact (hf b hb).2.1 z
    · exact (hf b hb).2.2.1 z
  · intro i x v e1 e2 e3
    have e2' : (fr.map fun o => o.bind fun j => (σ[j]?).join)[i]? = some (some v) := e2
    rw [List.getElem?_map] at e2'
    cases q : fr[i]? with
    | none => rw [q] at e2'; cases e2'
    | some o =>
      rw [q] at e2'
      have e3' : (o.bind fun j => (σ[j]?).join) = some v := Option.some.inj e2'
      cases o with
      | none => cases e3'
      | some j =>
        have e4 : (σ[j]?).join = some v := e3'
        have e5 : σ[j]? = some (some v) := by
          cases z : σ[j]? with
          | none => rw [z] at e4; cases e4
          | some w => rw [z] at e4; exact congrArg some e4
        obtain ⟨f1, f2, f3⟩ := frOk_at c.fr e1 q
        obtain ⟨m0, hn0, hl0⟩ := I.loc
        have vis : Vis X.env.scope x := f3.elim (fun z => .inr (.inl z)) fun z => .inr (.inr z)
        obtain ⟨u, r, look⟩ := hl0 j x v f1 e5 vis
        refine ⟨u, r, ?_⟩
        rcases look with ⟨k, _⟩ | ⟨k, d, hd, hcell⟩
        · have k' : X.env.scope.names.lookup x = some .local := k
          rcases f3 with z | z <;> (rw [k'] at z; cases z)
        · refine .inr ⟨?_, d, ?_, ?_⟩
          · have e3'' : (relN X.env scope.names).lookup x = some .local \/ (relN X.env scope.names).lookup x = some .cell \/ (relN X.env scope.names).lookup x = some .free := e3
            rcases e3'' with z | z | z
            · obtain ⟨k2, e, z2⟩ := relN_get scope.names z
              rw [f2] at e
              cases e
              rcases z2 with z2 | ⟨_, z2⟩ <;> cases z2
            · exact .inl z
            · exact .inr z
          · obtain ⟨d', e⟩ := clOf_has (env := X.env) scope.names [] (PySem.mem_of_lookup f2)
            have := get x d' e
            rw [hd] at this
            cases this
            exact e
          · obtain ⟨ob, h1, h2⟩ := hcell
            exact ⟨ob, old _ _ h1, h2⟩
  · intro x d e
    obtain ⟨v, ob, h1, h2⟩ := I.cell x d (get x d e)
    exact ⟨v, ob, old _ _ h1, h2⟩
  · exact fun x d e => I.freeC x d (get x d e)
  · intro p hp
    obtain ⟨e, n, ne, nf, dd⟩ := I.pin p hp
    refine ⟨old _ _ e, n, old2 _ (Heap.lt_size e), fun hs => ?_, dd⟩
    rcases List.mem_cons.mp (I.stkSub p.1 hs) with z | z
    · exact ne z
    · exact nf z
end
section
variable {prog : Program} {w : World} {A : Around} {R : Result -> Shared -> Prop} {s : Shared}
theorem comp_loop {elt tg iter : Expr} {ifs : List Expr} {scope : Scope} {pos : Pos} {it acc : Value} {env : Env} (J : Nat -> Shared -> Prop)
    (turn : ∀ n s, J n s -> wpAny (model prog w) A (pyNext it) (fun r s1 => match r with
      | none => R (.ok .next) s1
      | some v => wpAny (model prog w) A (letOwnedTupleGo tg it v) (fun _ s2 => wpAny (model prog w) A (assign tg env v) (fun _ s3 =>
          wpAny (model prog w) A (forIn ifs true fun c r => if r = true then do
            let ok <- isTrue c env (eval c env)
            pure (ForInStep.yield ok) else pure (ForInStep.yield r)) (fun ok s4 =>
              if ok = true then wpAny (model prog w) A (eval elt env) (fun x s5 =>
                wpAny (model prog w) A (call (.builtin "list.append") [acc, x]) (fun _ s6 => ∃ m, m < n /\ J m s6) (fun _ _ => False) s5) (fun _ _ => False) s4
              else ∃ m, m < n /\ J m s4) (fun _ _ => False) s3) (fun _ _ => False) s2) (fun _ _ => False) s1) (fun _ _ => False) s)
    (n : Nat) (h : J n s) : codeAny (model prog w) A (.compLoop (.ListComp elt [⟨tg, iter, ifs, 0⟩] scope pos) 0 it acc env) R s := by
  refine codeAny_loop rfl J (fun k s1 hJ => ?_) n h
  show wpAny _ A ((compTurn (.ListComp elt [⟨tg, iter, ifs, 0⟩] scope pos) 0 it acc env).onRaise (fun y => do noteFrame y env; theTreesLotGoes y)) _ _ s1
  refine wpAny_noted (wpAny_mono (E := fun _ _ => False) ?_ (fun _ _ q => q) fun _ _ z => z.elim)
  rw [compTurn_list]
  refine wpAny_bind (wpAny_standAt (wpAny_bind (thn (turn k s1 hJ) fun r s2 h2 => ?_)))
  cases r with
  | none => exact wpAny_pure h2
  | some v =>
    refine wpAny_bind (thn h2 fun _ s3 h3 => wpAny_bind (thn h3 fun _ s4 h4 => wpAny_bind (thn h4 fun ok s5 h5 => ?_)))
    cases ok with
    | false => exact wpAny_pure ⟨rfl, h5⟩
    | true =>
      refine wpAny_bind (wpAny_bind (thn h5 fun x s6 h6 => wpAny_bind (thn h6 fun _ s7 h7 => ?_)))
      exact wpAny_pure (wpAny_pure ⟨rfl, h7⟩)
end
theorem HOk.track {P : Program} {w : World} {H : Hp} {h : Heap} {a : Addr} {o : HO} (ok : HOk P w H h) (hn : H a = none) (new : ObjOk P w (upd H a o) h a o) : HOk P w (upd H a o) h := fun b u q => by
  by_cases hb : b = a
  · subst hb
    rw [upd_same] at q
    cases q
    exact new
  · rw [upd_ne hb] at q
    exact (ok b u q).stay (fun _ _ _ r => r) (fun c r => by rw [upd_ne (ne_of_none r hn)]; exact r) fun c xs r => by rw [upd_ne (ne_of_none r hn)]; exact r
def CompW (J : It) (g : TG) (tt : TT) (te : TE) (fin : List V -> Hp -> Prop) (W : Nat -> Nat -> List V -> St -> Hp -> Prop) : Prop :=
  ∀ i m ys σ H, W i m ys σ H -> (J.stop i H /\ ys.length <= sizeLine /\ fin ys H) \/ (J.go i H /\ ys.length < sizeLine /\ ∀ x H', J.yld i H x H' -> g x σ H' fun σ2 H2 => tt σ2 H2 fun b H3 =>
    if b = true then te σ2 H3 fun y H4 => ∃ m', m' < m /\ W (i + 1) m' (ys ++ [y]) σ2 H4 else ∃ m', m' < m /\ W (i + 1) m' ys σ2 H3)
section
variable {X : Cx} {scope : Scope} {N' : List Str} {fr : List (Option Nat)} {pins : List (Addr × Obj)} {σ : St} {H : Hp} {s : Shared} {fp : List Addr} {it : Addr} {tn : Nat -> Heap -> Prop} {J : It}
  {elt tg iter : Expr} {ifs : List Expr} {g : TG} {tt : TT} {te : TE} {pos : Pos} {fin : List V -> Hp -> Prop} {W : Nat -> Nat -> List V -> St -> Hp -> Prop} {RR : Value -> Addr -> Result -> Shared -> Prop} {E : Value -> Shared -> Prop}
theorem comp_block (c : CompOk X scope N' fr) (hc : X.calm = true) (I : Inv X pins σ H s) (T : Turn X.prog X.w X.K tg J fp it tn) (st : tn 0 s.heap) (hf : ∀ b ∈ fp, FpOk X pins H b)
    (hg : ∀ fp C s H, PG (cxComp X scope N' fp C s H) tg g) (ht : ∀ fp C s H, PIfs (cxComp X scope N' fp C s H) ifs tt) (he : ∀ fp C s H, PE (cxComp X scope N' fp C s H) elt te)
    (hW : CompW J g tt te fin W) (h0 : ∃ m, W 0 m [] (stComp fr σ) H)
    (hRR : ∀ D C ys H' s', Inv X pins σ (upd H' D (.lst ys)) s' -> (∃ m, s'.heap.Ns C m) -> FpOk X pins (upd H' D (.lst ys)) C -> H' D = none -> fin ys H' -> RR (.ref D) C (.ok .next) s') :
    wpAny (model X.prog X.w) X.A (newList []) (fun acc s3 => wpAny (model X.prog X.w) X.A (newFunctionEnv scope X.env.globals (clOf X.env scope.names []) [] X.env.qual none .none (some X.env)) (fun cenv s4 =>
      codeAny (model X.prog X.w) X.A (.compStart (.ListComp elt [⟨tg, iter, ifs, 0⟩] scope pos) 0 (.ref it) acc { cenv with scope := relabel scope X.env }) (RR acc cenv.locals) s4) E s3) E s := by
  refine wpAny_newObj_type (wpAny_newFunctionEnv c.cells (by intro y hy; simp at hy) (fun h1 hns hsb => ?_) c.kind)
  dsimp only at hns hsb ⊢
  generalize hH2 : s.heap.push { cls := .type "list", dict := none, data := .seq ([] : List Value).toArray } = H2 at hns hsb ⊢
  have hD0 : s.heap.objs.size < H2.objs.size := by rw [<- hH2, Heap.size_push]; exact Nat.lt_succ_self _
  generalize hDD : s.heap.objs.size = D at hD0 ⊢
  generalize hCC : H2.objs.size = C at hns hsb hD0 ⊢
  have up : ∀ b o, s.heap.get? b = some o -> h1.get? b = some o := fun b o e => hsb.extBut b o (by
    have := Heap.lt_size e
    rw [hDD] at this
    exact Nat.ne_of_lt (Nat.lt_trans this hD0)) (Heap.get?_push_of_some _ (by rw [<- hH2]; exact Heap.get?_push_of_some _ e))
  have accD : h1.get? D = some { cls := .type "list", dict := none, data := .seq ([] : List Value).toArray } := hsb.extBut _ _ (Nat.ne_of_lt hD0) (Heap.get?_push_of_some _ (by rw [<- hH2, <- hDD]; exact Heap.get?_push_size _ rfl))
  have hlt : ∀ b ∈ fp, b < s.heap.objs.size := fun b hb => by
    obtain ⟨o, e, _⟩ := T.obj 0 _ st b hb
    exact Heap.lt_size e
  have hle : s.heap.objs.size <= C := by rw [hDD]; exact Nat.le_of_lt hD0
  generalize hX' : cxComp X scope N' fp C s H = X'
  have I1 : Inv X' pins (stComp fr σ) H { s with heap := h1, toks := s.toks + ([] : List (Str × Value)).length } := by
    subst hX'
    exact inv_comp c hc I hf hlt up hle hns
  have st1 : tn 0 h1 := T.keep _ _ _ st fun b hb o e => up b o e
  have pm : X'.prog = X.prog := by subst hX'; rfl
  have wm : X'.w = X.w := by subst hX'; rfl
  have km : X'.K = X.K := by subst hX'; rfl
  have cm : X'.calm = true := by subst hX'; rfl
  have am : X'.A = X.A := by subst hX'; rfl
  have xm : X'.xe = fun _ _ => False := by subst hX'; rfl
  have lm : X'.env.locals = C := by subst hX'; rfl
  have szm : X'.s₀.heap.objs.size = s.heap.objs.size := by subst hX'; rfl
  have nm : X'.pn = X.pn := by subst hX'; rfl
  have hg' := hg fp C s H
  have ht' := ht fp C s H
  have he' := he fp C s H
  have em : X'.env = compEnvC scope (clOf X.env scope.names []) C X.env := by subst hX'; rfl
  have fsm : X'.fs = frs X.stack := by subst hX'; rfl
  have exm : X'.ex = fp := by subst hX'; rfl
  rw [hX'] at hg' ht' he'
  have ageP : ∀ p ∈ X.pn ++ pins, p.1 < D := fun p hp => by rw [<- hDD]; exact Heap.lt_size (I.pin p hp).1
  have ageC : ∀ x d, X'.env.cells.lookup x = some d -> d < D := fun x d e => by
    rw [em] at e
    rcases clOf_get scope.names [] (c.has I.ok) e with q | q
    · simp at q
    · obtain ⟨v, z⟩ := I.cell x d q
      rw [<- hDD]
      exact z.lt
  have cellF : ∀ x d, X'.env.cells.lookup x = some d -> X.env.cells.lookup x = some d := fun x d e => by
    rw [em] at e
    rcases clOf_get scope.names [] (c.has I.ok) e with q | q
    · simp at q
    · exact q
  have fps : ∀ {H' : Hp} {oD : Obj}, (∀ b ∈ fp, H' b = none) -> ∀ b ∈ fp, FpOk X' (pins ++ [(D, oD)]) H' b := fun {H' oD} hn b hb => by
    obtain ⟨_, f1, f2, f3, f4, f5⟩ := hf b hb
    have hbD : b < D := by rw [<- hDD]; exact hlt b hb
    refine ⟨hn b hb, ?_, ?_, .inl (by rw [exm]; exact hb), fun x d e => f4 x d (cellF x d e), fun p hp => ?_⟩
    · rw [lm]; exact Nat.ne_of_lt (Nat.lt_trans hbD hD0)
    · rw [fsm]
      intro hs
      rcases List.mem_cons.mp (I.stkSub b hs) with z | z
      · exact f1 z
      · exact f2 z
    · rw [nm, <- List.append_assoc] at hp
      rcases List.mem_append.mp hp with z | z
      · exact f5 p z
      · rw [List.mem_singleton.mp z]
        exact Nat.ne_of_gt hbD
  have pinD : ∀ {σ' : St} {H' : Hp} {s' : Shared} {its : List Value} {k : Nat}, Inv X' pins σ' H' s' -> s'.heap.get? D = some { cls := .type "list", data := .seq its.toArray k } -> H' D = none ->
      Inv X' (pins ++ [(D, { cls := .type "list", data := .seq its.toArray k })]) σ' H' s' := fun {σ' H' s' its k} J0 e n => J0.pins_of fun p hp => by
    rcases List.mem_append.mp hp with z | z
    · exact J0.pin p (List.mem_append_right _ z)
    · rw [List.mem_singleton.mp z]
      refine ⟨e, n, ?_, ?_, fun v q => by cases q⟩
      · show D ≠ X'.env.locals
        rw [lm]
        exact Nat.ne_of_lt hD0
      · rw [fsm]
        intro hs
        have hb := I.stkSub D hs
        rcases List.mem_cons.mp hb with z | z
        · have := I.lt
          rw [<- z, hDD] at this
          exact Nat.lt_irrefl _ this
        · exact I.nofs (Nat.le_of_eq hDD) z
  have loop : ∀ s0 : Shared, s0 = { s with heap := h1, toks := s.toks + ([] : List (Str × Value)).length } ->
      codeAny (model X.prog X.w) X.A (.compLoop (.ListComp elt [⟨tg, iter, ifs, 0⟩] scope pos) 0 (.ref it) (.ref D) X'.env) (RR (.ref D) C) s0 := by
    rintro s0 rfl
    obtain ⟨m0, w0⟩ := h0
    refine comp_loop (fun n s' => ∃ i ys σ' H' its k, Inv X' pins σ' H' s' /\ tn i s'.heap /\ (∀ b ∈ fp, H' b = none) /\ s'.heap.get? D = some { cls := .type "list", data := .seq (its : List Value).toArray k } /\ H' D = none /\ Vals ys its /\ W i n ys σ' H')
      ?_ m0 ⟨0, [], stComp fr σ, H, [], 0, I1, st1, fun b hb => (hf b hb).1, accD, I.hok.fresh (by rw [hDD]; exact Nat.le_refl _), .nil, w0⟩
    rintro n s1 ⟨i, ys, σ1, H1, its, k, J1, t1, n1, d1, nD1, v1, w1⟩
    have J1' := pinD J1 d1 nD1
    rcases hW i n ys σ1 H1 w1 with ⟨stop, hlen, fi⟩ | ⟨go, hlen, step⟩
    · have a1 := T.done X' pm wm km cm i _ s1 σ1 H1 (fun _ _ => False) J1' (fps n1) t1 stop
      rw [am] at a1
      refine thn a1 fun r s2 ⟨hr, J2⟩ => ?_
      subst hr
      obtain ⟨d2, nD2, _⟩ := J2.pin (D, _) (List.mem_append_right _ (List.mem_append_right _ List.mem_cons_self))
      have u2 : Un (frs X.stack) fp H H1 s.heap s2.heap := by
        have := J2.base
        subst hX'
        exact this
      have hok2 : HOk X.prog X.w (upd H1 D (.lst ys)) s2.heap := by
        have h2 := J2.hok
        rw [pm, wm] at h2
        exact h2.track nD1 ⟨hlen, its, k, v1, d2⟩
      have J3 : Inv X pins σ (upd H1 D (.lst ys)) s2 := by
        refine I.call' (ch := fp) (by have := J2.os; subst hX'; exact this) ⟨fun b o e n hb hx => u2.keep b o e n hb hx, fun b o e n hb hx => u2.slot b o e n hb hx, fun b o e n hx => ?_, fun b o e hx => u2.there b o e hx, fun b xs e => ?_, fun b o u e => ?_, fun b ps e => ?_⟩ hok2 J2.bare fun b hb => ?_
        · have ne : b ≠ D := Nat.ne_of_lt (by rw [<- hDD]; exact Heap.lt_size e)
          rw [upd_ne ne]
          exact u2.free b o e n hx
        · have q := u2.tups b xs e
          rw [upd_ne (ne_of_none q nD1)]
          exact q
        · have q := u2.frzs b o u e
          rw [upd_ne (ne_of_none q nD1)]
          exact q
        · obtain ⟨more, q⟩ := u2.tbls b ps e
          exact ⟨more, by rw [upd_ne (ne_of_none q nD1)]; exact q⟩
        · obtain ⟨_, f1, f2, f3, f4, f5⟩ := hf b hb
          exact ⟨f3, f1, f4, f5⟩
      have nC : (upd H1 D (.lst ys)) C = none := by
        rw [upd_ne (Nat.ne_of_gt hD0)]
        have := J2.free
        rw [lm] at this
        exact this
      refine hRR D C ys H1 s2 J3 ?_ (I.fpOk hle nC) nD1 fi
      obtain ⟨m, hm, _⟩ := J2.loc
      rw [lm] at hm
      exact ⟨m, hm⟩
    · have a1 := T.item X' pm wm km cm i _ s1 σ1 H1 (fun _ _ => False) J1' (fps n1) t1 go
      rw [am] at a1
      refine thn a1 fun r s2 ⟨u, hr, h2⟩ => ?_
      subst hr
      refine thn h2 fun _ s3 ⟨x, H3, J3, r3, y3, t3, n3⟩ => ?_
      have J3' := J3.pinned (fps n3) (T.obj _ _ t3)
      have a3 := hg' _ s3 σ1 H3 x u _ J3' r3 (step x H3 y3)
      rw [pm, wm, am, xm] at a3
      refine thn a3 fun _ s4 ⟨σ4, H4, J4, q4⟩ => ?_
      have a4 := ht' _ s4 σ4 H4 _ J4 q4
      rw [pm, wm, am, xm] at a4
      refine thn a4 fun ok s5 ⟨H5, J5, q5⟩ => ?_
      have keepT : ∀ {σ' : St} {H' : Hp} {s' : Shared}, Inv X' (pins ++ [(D, { cls := .type "list", data := .seq its.toArray k })] ++ pinsAt fp s3.heap) σ' H' s' -> tn (i + 1) s'.heap /\ (∀ b ∈ fp, H' b = none) /\ s'.heap.get? D = some { cls := .type "list", data := .seq its.toArray k } /\ H' D = none /\ Inv X' pins σ' H' s' := fun {σ' H' s'} J0 => by
        refine ⟨T.keep _ _ _ t3 fun b hb o e => (J0.pin (b, o) (List.mem_append_right _ (List.mem_append_right _ (mem_pinsAt hb e)))).1, fun b hb => ?_, ?_, ?_, J0.unpinned.unpinned⟩
        · obtain ⟨o, e, _⟩ := T.obj _ _ t3 b hb
          exact (J0.pin (b, o) (List.mem_append_right _ (List.mem_append_right _ (mem_pinsAt hb e)))).2.1
        · exact (J0.pin (D, _) (List.mem_append_right _ (List.mem_append_left _ (List.mem_append_right _ List.mem_cons_self)))).1
        · exact (J0.pin (D, { cls := .type "list", data := .seq its.toArray k }) (List.mem_append_right _ (List.mem_append_left _ (List.mem_append_right _ List.mem_cons_self)))).2.1
      cases ok with
      | false =>
        obtain ⟨m', hm, w'⟩ := q5
        obtain ⟨e1, e2, e3, e4, e5⟩ := keepT J5
        rw [if_neg Bool.false_ne_true]
        exact ⟨m', hm, i + 1, ys, σ4, H5, its, k, e5, e1, e2, e3, e4, v1, w'⟩
      | true =>
        rw [if_pos rfl]
        have a5 := he' _ s5 σ4 H5 _ J5 q5
        rw [pm, wm, am, xm] at a5
        refine thn a5 fun u6 s6 ⟨y, H6, J6, r6, m', hm, w6⟩ => ?_
        obtain ⟨e1, e2, e3, e4, e5⟩ := keepT J6
        refine append_at (hsz := by show its.toArray.size <= sizeLine; rw [List.size_toArray, <- v1.length]; exact Nat.le_of_lt hlen) e3 fun h7 sb7 d7 => ?_
        have J7 : Inv X' pins σ4 H6 { s6 with heap := h7 } := e5.turned (t' := s6.toks) (it := D) (fun b o hb e => sb7.extBut b o hb e) e4 (by rw [lm]; exact Nat.ne_of_lt hD0) (.inr (by rw [szm, hDD]; exact Nat.le_refl _)) (fun x d e => Nat.ne_of_lt (ageC x d e)) fun p hp => by
          rw [nm] at hp
          exact Nat.ne_of_lt (ageP p hp)
        refine ⟨m', hm, i + 1, ys ++ [y], σ4, H6, its ++ [u6], k + 1, J7, T.keep _ _ _ e1 fun b hb o e => sb7.extBut b o (Nat.ne_of_lt (by rw [<- hDD]; exact hlt b hb)) e, e2, ?_, e4, v1.append (.cons r6 .nil), w6⟩
        rw [d7, List.push_toArray]
  have env1 : ({ newEnv scope C X.env.globals (clOf X.env scope.names []) X.env.qual none .none (some X.env) 0 with scope := relabel scope X.env } : Env) = X'.env := by rw [em]; rfl
  have lp := loop _ rfl
  rw [em] at lp
  exact codeAny_compStart_list lp (T.self _ 0 _ _ _ st1 lp)
def tComp (wi : TI) (fr : List (Option Nat)) (g : TG) (tt : TT) (te : TE) : TE := fun σ H Q => wi σ H fun J H1 =>
  ∃ W, CompW J g tt te (fun ys H' => ∀ p, H' p = none -> Q (.ref p) (upd H' p (.lst ys))) W /\ ∃ m, W 0 m [] (stComp fr σ) H1
theorem pe_comp {wi : TI} (c : CompOk X scope N' fr) (hc : X.calm = true) (hi : PI X tg iter wi) (hg : ∀ fp C s H, PG (cxComp X scope N' fp C s H) tg g) (ht : ∀ fp C s H, PIfs (cxComp X scope N' fp C s H) ifs tt)
    (he : ∀ fp C s H, PE (cxComp X scope N' fp C s H) elt te) (hs : ∀ x, foldedSetIterable iter X.env x = pure x := by intro _; rfl) : PE X (.ListComp elt [⟨tg, iter, ifs, 0⟩] scope pos) (tComp wi fr g tt te) := by
  intro pins s σ H Q I h
  rw [eval_ListComp]
  refine wpAny_comprehension_free (use := none) rfl hs (closure_is (c.has I.ok)) c.kind c.names (thn (hi pins s σ H _ I h) fun v s1 h1 => thn h1 fun itv s2 h2 => ?_)
  obtain ⟨it, fp, tn, J, H2, e, I2, T, st2, f2, W, hW, h0⟩ := h2
  subst e
  refine comp_block c hc I2 T st2 f2 hg ht he hW h0 ?_
  rintro D C ys H' s' J3 ⟨m, hm⟩ ⟨f0, f1, _, f3, f4, f5⟩ nD fi
  exact ⟨m, hm, fun h'' sb => ⟨.ref D, _, J3.turned (t' := s'.toks) (it := C) (fun b o hb e => sb.extBut b o hb e) f0 f1 f3 f4 f5, rfl, fi D nD⟩⟩
def tSetComp (i : Nat) (wi : TI) (fr : List (Option Nat)) (g : TG) (tt : TT) (te : TE) : TS := fun D σ H => wi σ H fun J H1 =>
  ∃ W, CompW J g tt te (fun ys H' => ∀ p, H' p = none -> D.nx (σ.set i (some (.ref p))) (upd H' p (.lst ys))) W /\ ∃ m, W 0 m [] (stComp fr σ) H1
theorem ps_setComp {wi : TI} {i : Nat} {y : Str} {py spos : Pos} (hN : X.N.Nodup) (hi' : X.N[i]? = some y) (hy : Loc X.env.scope y) (c : CompOk X scope N' fr) (hc : X.calm = true) (hi : PI X tg iter wi) (hg : ∀ fp C s H, PG (cxComp X scope N' fp C s H) tg g) (ht : ∀ fp C s H, PIfs (cxComp X scope N' fp C s H) ifs tt)
    (he : ∀ fp C s H, PE (cxComp X scope N' fp C s H) elt te) (hs : ∀ x, foldedSetIterable iter X.env x = pure x := by intro _; rfl)
    (hsw : swapsWith (.ListComp elt [⟨tg, iter, ifs, 0⟩] scope pos) (some (.Name y py)) spos.line X.env = pure true := by rfl) (hf : X.fn y = true \/ X.env.scope.names.lookup y = some .local := by first | exact .inl rfl | exact .inr rfl | assumption) :
    PS X (.Assign [.Name y py] (.ListComp elt [⟨tg, iter, ifs, 0⟩] scope pos) spos) (tSetComp i wi fr g tt te) := by
  intro pins s σ H D I h
  rw [exec_Assign_Name_used _ _ _ _ hsw]
  refine wpAny_bind (wpAny_standAt (wpAny_bind ?_))
  show wpAny _ X.A (do let _ <- comprehension (.ListComp elt [⟨tg, iter, ifs, 0⟩] scope pos) scope X.env _ (newList []) false (eval iter X.env) (some (assign (.Name y py) X.env))) _ _ s
  refine wpAny_bind (thn (wpAny_comprehension_free (use := some (assign (.Name y py) X.env)) (Q := fun _ s' => SP X pins D .next s') rfl hs (closure_is (c.has I.ok)) c.kind c.names
    (thn (hi pins s σ H _ I h) fun v s1 h1 => thn h1 fun itv s2 h2 => ?_)) fun _ s' hq => wpAny_pure (wpAny_pure hq))
  obtain ⟨it, fp, tn, J, H2, e, I2, T, st2, f2, W, hW, h0⟩ := h2
  subst e
  refine comp_block c hc I2 T st2 f2 hg ht he hW h0 ?_
  rintro B C ys H' s' J3 ⟨m, hm⟩ ⟨f0, f1, _, f3, f4, f5⟩ nD fi
  show wpAny _ X.A (assign (.Name y py) X.env (.ref B)) _ _ s'
  refine wpAny_assign_Name (store_ok2 J3 hN hi' hy (show RelV (.ref B) (.ref B) from rfl) (fun s4 J4 ⟨a, sb, ha⟩ => ?_) hf)
  have nCa : C ≠ a := by
    rcases ha with z | z
    · rw [z]; exact f1
    · exact fun q => f4 y a z q.symm
  exact ⟨m, hm.sameBut sb nCa, fun h'' sb2 => ⟨_, _, J4.turned (t' := s4.toks) (it := C) (fun b o hb e => sb2.extBut b o hb e) f0 f1 f3 f4 f5, fi B nD⟩⟩
end
section
variable {X : Cx}
theorem call_isinst : CallR X (.builtin "isinstance") (fun xs H Q => ∃ x c t u b, xs = [x, c] /\ RelV c u /\ TyOf X.K H x t /\ PySem.W.kitOne X.K t u = some b /\ Q (.bl b) H) := by
  intro pins s σ H xs us Q I r h
  obtain ⟨x, c, t, u, b, rfl, rc, ty, e, q⟩ := h
  obtain ⟨u1, u2, rfl, r1, r2⟩ := Vals.two r
  have hu : u2 = u := by
    cases c <;> first
      | exact (show u2 = _ from r2).trans (show u = _ from rc).symm
      | skip
    all_goals (exfalso; obtain ⟨_, rfl⟩ := rc; unfold PySem.W.kitOne PySem.W.kitCls at e; split at e <;> first | (cases ty <;> simp_all) | (simp at e))
  subst hu
  exact isinst_ok I r1 ty e fun tk => ⟨.bl b, H, I.tok tk, rfl, q⟩
inductive SameD (K : PySem.W.Frag) (H : Hp) : Nat -> V -> V -> Prop
  | flat {n : Nat} {x : V} (f : flatV x = true) : SameD K H n x x
  | tup {n : Nat} {a b : Addr} {xs ys : List V} (ha : SqT K H a xs) (hb : SqT K H b ys) (hl : xs.length = ys.length) (h : ∀ (i : Nat) (x y : V), xs[i]? = some x -> ys[i]? = some y -> SameD K H n x y) : SameD K H (n + 1) (.ref a) (.ref b)
  | lst {n : Nat} {a b : Addr} {xs ys : List V} (ha : SqL K H a xs) (hb : SqL K H b ys) (hl : xs.length = ys.length) (h : ∀ (i : Nat) (x y : V), xs[i]? = some x -> ys[i]? = some y -> SameD K H n x y) : SameD K H (n + 1) (.ref a) (.ref b)
theorem eqV_self {x : V} (f : flatV x = true) : eqV x x = true := by
  cases x <;> first | (exact absurd (show false = true from f) Bool.false_ne_true) | rfl | (simp [eqV])
theorem range_all_true (n : Nat) (e : Nat -> Bool) (h : ∀ i, e i = true) : (List.range n).all e = true := by
  rw [List.all_eq_true]; intro i _; exact h i
theorem in1_units {A : Around} : A.in1.units <= A.units + 1 := by
  first
    | exact Nat.le_refl _
    | exact Nat.le_succ _
    | (simp [Around.in1])
theorem SameD.rc {pins : List (Addr × Obj)} {σ : St} {H : Hp} {s : Shared} (I : Inv X pins σ H s) {n : Nat} {x y : V} (h : SameD X.K H n x y) : ∀ (A : Around), A.units + n < cLine -> ∀ (u v : Value), RelV x u -> RelV y v -> SeqAt.EqAt A s u v true := by
  induction h with
  | flat f => intro A hu u v ru rv; have := eqAt_V (A := A) (s := s) ru rv f f; rw [eqV_self f] at this; exact this
  | @tup n a b xs ys ha hb hl _ ih =>
    intro A hu u v ru rv
    cases (show u = Value.ref a from ru)
    cases (show v = Value.ref b from rv)
    by_cases e : a = b
    · subst e; exact SeqAt.EqAt.same _
    · obtain ⟨its, r1, t1, _⟩ := I.tuple ha
      obtain ⟨its2, r2, t2, _⟩ := I.tuple hb
      have hz : its.toArray.size = its2.toArray.size := by simp [<- r1.length, <- r2.length, hl]
      refine SeqAt.EqAt.of_refs e ?_
      have q := SeqAt.RcAt.tuples (e := fun _ => true) (A := A) t1 t2 (by lia) (fun j h1 h2 => ?_)
      · rw [range_all_true _ _ (fun _ => rfl), hz] at q
        simpa using q
      · have l1 : j < xs.length := by have := r1.length; simp at h1; lia
        have l2 : j < ys.length := by lia
        obtain ⟨u1, e1, q1⟩ := r1.get (i := j) (x := xs[j]) (by simp [l1])
        obtain ⟨u2, e2, q2⟩ := r2.get (i := j) (x := ys[j]) (by simp [l2])
        have w1 : its.toArray[j] = u1 := by have := List.getElem?_eq_some_iff.mp e1; simpa using this.2
        have w2 : its2.toArray[j] = u2 := by have := List.getElem?_eq_some_iff.mp e2; simpa using this.2
        rw [w1, w2]
        exact ih j _ _ (by simp [l1]) (by simp [l2]) A.in1 (by have := @in1_units A; lia) _ _ q1 q2
  | @lst n a b xs ys ha hb hl _ ih =>
    intro A hu u v ru rv
    cases (show u = Value.ref a from ru)
    cases (show v = Value.ref b from rv)
    by_cases e : a = b
    · subst e; exact SeqAt.EqAt.same _
    · obtain ⟨its, r1, t1, _⟩ := I.list ha
      obtain ⟨its2, r2, t2, _⟩ := I.list hb
      have hz : its.toArray.size = its2.toArray.size := by simp [<- r1.length, <- r2.length, hl]
      refine SeqAt.EqAt.of_refs e ?_
      have q := SeqAt.RcAt.lists (e := fun _ => true) (A := A) t1.isList t2.isList hz (by lia) (fun j h1 h2 => ?_)
      · rw [range_all_true _ _ (fun _ => rfl)] at q
        exact q
      · have l1 : j < xs.length := by have := r1.length; simp at h1; lia
        have l2 : j < ys.length := by lia
        obtain ⟨u1, e1, q1⟩ := r1.get (i := j) (x := xs[j]) (by simp [l1])
        obtain ⟨u2, e2, q2⟩ := r2.get (i := j) (x := ys[j]) (by simp [l2])
        have w1 : its.toArray[j] = u1 := by have := List.getElem?_eq_some_iff.mp e1; simpa using this.2
        have w2 : its2.toArray[j] = u2 := by have := List.getElem?_eq_some_iff.mp e2; simpa using this.2
        rw [w1, w2]
        exact ih j _ _ (by simp [l1]) (by simp [l2]) A.in1 (by have := @in1_units A; lia) _ _ q1 q2
def rSame (K : PySem.W.Frag) (out : Bool) : R2 := fun x y H Q => ∃ a b xs ys n, x = .ref a /\ y = .ref b /\ ((SqT K H a xs /\ SqT K H b ys) \/ (SqL K H a xs /\ SqL K H b ys)) /\ xs.length = ys.length /\ n <= 64 /\
  (∀ (i : Nat) (x y : V), xs[i]? = some x -> ys[i]? = some y -> SameD K H n x y) /\ Q (.bl out) H
theorem same_items {pins : List (Addr × Obj)} {σ : St} {H : Hp} {s : Shared} (I : Inv X pins σ H s) {A : Around} {n : Nat} {xs ys : List V} {its its2 : List Value} (hu : A.units + n < cLine) (r1 : Vals xs its) (r2 : Vals ys its2) (hl : xs.length = ys.length)
    (h : ∀ (i : Nat) (x y : V), xs[i]? = some x -> ys[i]? = some y -> SameD X.K H n x y) : ∀ j (h1 : j < its.toArray.size) (h2 : j < its2.toArray.size), SeqAt.EqAt A s its.toArray[j] its2.toArray[j] true := by
  intro j h1 h2
  have l1 : j < xs.length := by have := r1.length; simp at h1; lia
  have l2 : j < ys.length := by lia
  obtain ⟨u1, e1, q1⟩ := r1.get (i := j) (x := xs[j]) (by simp [l1])
  obtain ⟨u2, e2, q2⟩ := r2.get (i := j) (x := ys[j]) (by simp [l2])
  have w1 : its.toArray[j] = u1 := by have := List.getElem?_eq_some_iff.mp e1; simpa using this.2
  have w2 : its2.toArray[j] = u2 := by have := List.getElem?_eq_some_iff.mp e2; simpa using this.2
  rw [w1, w2]
  exact (h j _ _ (by simp [l1]) (by simp [l2])).rc I A hu _ _ q1 q2
theorem op_eqS (hu : X.A.units + 66 < cLine) : OpR X (compareOp .Eq) (rSame X.K true) := by
  intro pins s σ H x y v u Q I rx ry h
  obtain ⟨a, b, xs, ys, n, rfl, rfl, hk, hl, hn, hs, q⟩ := h
  cases (show v = Value.ref a from rx)
  cases (show u = Value.ref b from ry)
  have hu1 : X.A.in1.units + n < cLine := by have := @in1_units X.A; lia
  rcases hk with ⟨ha, hb⟩ | ⟨ha, hb⟩
  · obtain ⟨its, r1, t1, _⟩ := I.tuple ha
    obtain ⟨its2, r2, t2, _⟩ := I.tuple hb
    have hz : its.toArray.size = its2.toArray.size := by simp [<- r1.length, <- r2.length, hl]
    refine SeqAt.eq_tupleAt (e := fun _ => true) t1 t2 (by lia) (same_items I hu1 r1 r2 hl hs) ?_
    rw [range_all_true _ _ (fun _ => rfl), hz]
    exact ⟨.bl true, H, I, by simp [RelV], q⟩
  · obtain ⟨its, r1, t1, _⟩ := I.list ha
    obtain ⟨its2, r2, t2, _⟩ := I.list hb
    have hz : its.toArray.size = its2.toArray.size := by simp [<- r1.length, <- r2.length, hl]
    refine SeqAt.eq_listAt (e := fun _ => true) t1.isList t2.isList hz (by lia) (same_items I hu1 r1 r2 hl hs) ?_
    rw [range_all_true _ _ (fun _ => rfl)]
    exact ⟨.bl true, H, I, rfl, q⟩
def rNil (K : PySem.W.Frag) (neg : Bool) : R2 := fun x y H Q => ∃ a b xs, x = .ref a /\ y = .ref b /\ SqL K H a xs /\ SqL K H b [] /\ Q (.bl (neg ^^ decide (xs = []))) H
theorem op_eqNil (hu : X.A.units + 66 < cLine) : OpR X (compareOp .Eq) (rNil X.K false) := by
  intro pins s σ H x y v u Q I rx ry h
  obtain ⟨a, b, xs, rfl, rfl, ha, hb, q⟩ := h
  cases (show v = Value.ref a from rx)
  cases (show u = Value.ref b from ry)
  obtain ⟨its, r1, t1, _⟩ := I.list ha
  obtain ⟨its2, r2, t2, _⟩ := I.list hb
  have z2 : its2 = [] := Vals.zero r2
  subst z2
  cases xs with
  | nil =>
    have z1 : its = [] := Vals.zero r1
    subst z1
    exact SeqAt.eq_listAt (e := fun _ => true) t1.isList t2.isList rfl (by lia) (fun j h1 _ => absurd h1 (by simp)) ⟨.bl true, H, I, by simp [RelV], by simpa using q⟩
  | cons x xs =>
    have hl := r1.length
    exact SeqAt.eq_list_lengthsAt t1.isList t2.isList (by simp [<- hl]) (by lia) ⟨.bl false, H, I, rfl, by simpa using q⟩
theorem kept_iter {h h' : Heap} {o : Obj} (hk : ∀ b u, b ∉ [h.objs.size] -> (h.push o).get? b = some u -> h'.get? b = some u) : ∀ b u, h.get? b = some u -> h'.get? b = some u := fun b u e =>
  hk b u (fun hm => absurd (Heap.lt_size e) (by rw [List.mem_singleton.mp hm]; exact Nat.lt_irrefl _)) (Heap.get?_push_of_some _ e)
theorem bools_at {bs : List Bool} {its : List Value} (r : Vals (bs.map V.bl) its) {i : Nat} {v : Value} (e : its.toArray[i]? = some v) : v = .bool (bs.getD i false) := by
  have e' : its[i]? = some v := by simpa using e
  have hl : i < its.length := (List.getElem?_eq_some_iff.mp e').1
  have hb : i < bs.length := by have := r.length; rw [List.length_map] at this; lia
  obtain ⟨u, e1, q⟩ := r.get (i := i) (x := V.bl bs[i]) (by simp [hb])
  rw [e1] at e'
  cases e'
  have e3 : v = Value.bool bs[i] := q
  rw [e3]
  simp [List.getD, hb]
theorem range_all_get (bs : List Bool) : (List.range bs.length).all (fun i => bs.getD i false) = bs.all id := by
  rw [Bool.eq_iff_iff, List.all_eq_true, List.all_eq_true]
  constructor
  · intro h x hx
    obtain ⟨i, hi, e⟩ := List.mem_iff_getElem.mp hx
    have := h i (List.mem_range.mpr hi)
    simp [List.getD, hi, e] at this
    exact this
  · intro h i hi
    have hi' := List.mem_range.mp hi
    have := h bs[i] (List.getElem_mem hi')
    simpa [List.getD, hi'] using this
theorem call_all (hc : X.calm = true) : CallR X (.builtin "all") (fun xs H Q => ∃ (p : Addr) (bs : List Bool), xs = [.ref p] /\ SqL X.K H p (bs.map V.bl) /\ Q (.bl (bs.all id)) H) := by
  intro pins s σ H xs us Q I r h
  obtain ⟨p, bs, rfl, hp, q⟩ := h
  obtain ⟨u, rfl, ru⟩ := Vals.one r
  cases (show u = Value.ref p from ru)
  obtain ⟨its, r1, t1, _⟩ := I.list hp
  have hh : X.A.in1.handled = none := I.ok.hd hc
  have hlt : p < s.heap.objs.size := by obtain ⟨_, e, _⟩ := t1.isList; exact Heap.lt_size e
  refine call_all_walk (wpAny_pyIter_list t1.isList ⟨_, _, _, _, _, _, fun i => bs.getD i false, rfl, Walks.list hh _ p (Nat.ne_of_lt hlt) its.toArray, ⟨⟨_, Heap.get?_push_size _ rfl, rfl, rfl⟩, t1.isList.push _⟩, ?_, ?_⟩)
  · intro i v s' Q' E' e hq
    rw [bools_at r1 e]
    exact wpAny_truthy_bool hq
  · intro h' tk hk
    have hl : its.toArray.size = bs.length := by have := r1.length; simp at this ⊢; lia
    rw [hl, range_all_get]
    exact ⟨.bl _, H, I.kept (kept_iter hk), rfl, q⟩
end
section
variable {X : Cx} {pins : List (Addr × Obj)} {σ : St} {H : Hp} {s : Shared}
theorem Inv.turnM {ch : List Addr} {t' : Nat} {h' : Heap} (I : Inv X pins σ H s) (hf : ∀ b ∈ ch, FpOk X pins H b) (k : ∀ b u, b ∉ ch -> s.heap.get? b = some u -> h'.get? b = some u) : Inv X pins σ H { s with heap := h', toks := t' } := by
  have nch : ∀ b u, H b = some u -> b ∉ ch := fun b u e z => by have := (hf b z).1; rw [this] at e; cases e
  refine I.step (g' := s.gens) (d' := s.drawn) (ch := ch) (fun b hb => ⟨(hf b hb).2.2.2.1, (hf b hb).2.1, (hf b hb).2.2.2.2.1, (hf b hb).2.2.2.2.2⟩) (fun b o _ _ hc e _ => k b o hc e) (fun b o _ _ hc e _ => ⟨o.slots, k b o hc e⟩) (fun _ _ _ _ n => n)
    (fun b o hc e => ⟨o, k b o hc e⟩) (fun _ _ e => e) (fun _ _ _ e => e) (fun b ps e => ⟨#[], by rw [e]; simp⟩) (fun m hm => ?_) (fun b u e => ?_) I.bare
  · obtain ⟨o, es, ep, ho, r⟩ := hm
    exact ⟨o, es, ep, k _ o (fun z => (hf _ z).2.1 rfl) ho, r⟩
  · refine (I.hok b u e).stay (fun c v hc q => k c v ?_ q) (fun _ q => q) fun _ _ q => q
    rcases hc with z | z
    · rw [z]; exact nch b u e
    · exact nch c _ z
theorem Inv.turnNew {ch : List Addr} {T : Addr} {o : HO} {t' : Nat} {h' : Heap} (I : Inv X pins σ H s) (hf : ∀ b ∈ ch, FpOk X pins H b) (k : ∀ b u, b ∉ ch -> s.heap.get? b = some u -> h'.get? b = some u) (hT : s.heap.objs.size <= T)
    (new : ObjOk X.prog X.w (upd H T o) h' T o) : Inv X pins σ (upd H T o) { s with heap := h', toks := t' } := by
  have nch : ∀ b u, H b = some u -> b ∉ ch := fun b u e z => by have := (hf b z).1; rw [this] at e; cases e
  have nT : H T = none := I.hok.fresh hT
  have neT : ∀ b u, s.heap.get? b = some u -> b ≠ T := fun b u e => Nat.ne_of_lt (Nat.lt_of_lt_of_le (Heap.lt_size e) hT)
  refine I.step (g' := s.gens) (d' := s.drawn) (ch := ch) (fun b hb => ⟨(hf b hb).2.2.2.1, (hf b hb).2.1, (hf b hb).2.2.2.2.1, (hf b hb).2.2.2.2.2⟩) (fun b o _ _ hc e _ => k b o hc e) (fun b o _ _ hc e _ => ⟨o.slots, k b o hc e⟩) (fun b u _ e n => by rw [upd_ne (neT b u e)]; exact n)
    (fun b o hc e => ⟨o, k b o hc e⟩) (fun b xs e => by rw [upd_ne (ne_of_none e nT)]; exact e) (fun b o u e => by rw [upd_ne (ne_of_none e nT)]; exact e) (fun b ps e => ⟨#[], by rw [upd_ne (ne_of_none e nT), e]; simp⟩) (fun m hm => ?_) (fun b u e => ?_) I.bare
  · obtain ⟨o, es, ep, ho, r⟩ := hm
    exact ⟨o, es, ep, k _ o (fun z => (hf _ z).2.1 rfl) ho, r⟩
  · by_cases hb : b = T
    · subst hb
      rw [upd_same] at e
      cases e
      exact new
    · rw [upd_ne hb] at e
      refine (I.hok b u e).stay (fun c v hc q => k c v ?_ q) (fun c r => by rw [upd_ne (ne_of_none r nT)]; exact r) fun c xs r => by rw [upd_ne (ne_of_none r nT)]; exact r
      rcases hc with z | z
      · rw [z]; exact nch b u e
      · exact nch c _ z
end
inductive Kd | l | t
def ItAt (k : Kd) (h : Heap) (it a : Addr) (i : Nat) : Prop := match k with | .l => h.IsListIter it a i | .t => h.IsTupleIter it a i
def SqK (k : Kd) (K : PySem.W.Frag) (H : Hp) (a : Addr) (xs : List V) : Prop := match k with | .l => SqL K H a xs | .t => SqT K H a xs
def SeqIs (k : Kd) (h : Heap) (a : Addr) (its : List Value) : Prop := match k with | .l => h.IsList a its.toArray | .t => h.IsTuple a its.toArray
def iterTy : Kd -> String | .l => "list_iterator" | .t => "tuple_iterator"
theorem Inv.seq {X : Cx} {pins : List (Addr × Obj)} {σ : St} {H : Hp} {s : Shared} (I : Inv X pins σ H s) {k : Kd} {a : Addr} {xs : List V} (h : SqK k X.K H a xs) : ∃ its : List Value, Vals xs its /\ SeqIs k s.heap a its /\ xs.length <= sizeLine := by
  cases k with
  | l => obtain ⟨its, r, t, z⟩ := I.list h; exact ⟨its, r, t.isList, z⟩
  | t => obtain ⟨its, r, t, z⟩ := I.tuple h; exact ⟨its, r, t, z⟩
theorem ItAt.kept {k : Kd} {h h' : Heap} {it a : Addr} {i : Nat} (q : ItAt k h it a i) (e : ∀ o, h.get? it = some o -> h'.get? it = some o) : ItAt k h' it a i := by
  cases k with
  | l => obtain ⟨o, ho, r⟩ := (show h.IsListIter it a i from q); exact ⟨o, e _ ho, r⟩
  | t => obtain ⟨o, ho, r⟩ := (show h.IsTupleIter it a i from q); exact ⟨o, e _ ho, r⟩
theorem ItAt.obj {k : Kd} {h : Heap} {it a : Addr} {i : Nat} (q : ItAt k h it a i) : ∃ o, h.get? it = some o /\ ∀ v, o.data ≠ .cell v := by
  cases k with
  | l => obtain ⟨o, ho, _, d⟩ := (show h.IsListIter it a i from q); exact ⟨o, ho, fun v z => by rw [d] at z; cases z⟩
  | t => obtain ⟨o, ho, _, d⟩ := (show h.IsTupleIter it a i from q); exact ⟨o, ho, fun v z => by rw [d] at z; cases z⟩
theorem SeqIs.kept {k : Kd} {h h' : Heap} {a : Addr} {its : List Value} (q : SeqIs k h a its) (e : ∀ o, h.get? a = some o -> h'.get? a = some o) : SeqIs k h' a its := by
  cases k with
  | l => obtain ⟨o, ho, r⟩ := (show h.IsList a its.toArray from q); exact ⟨o, e _ ho, r⟩
  | t => obtain ⟨o, ho, r⟩ := (show h.IsTuple a its.toArray from q); exact ⟨o, e _ ho, r⟩
section
variable {prog : Program} {w : World} {A : Around} {E : Value -> Shared -> Prop} {s : Shared}
theorem next_tup {it t : Addr} {i : Nat} {its : List Value} {x : Value} {Q : Value -> Shared -> Prop} (hi : s.heap.IsTupleIter it t i) (ht : s.heap.IsTuple t its.toArray) (hx : its[i]? = some x)
    (q : ∀ h', h'.IsTupleIter it t (i + 1) -> Heap.SameBut it s.heap h' -> Q x { s with heap := h' }) : wpAny (model prog w) A (Builtin.SmallTypes.nextOf (.ref it)) Q E s := by
  obtain ⟨oi, gi, ci, di⟩ := id hi
  obtain ⟨ot, gt, _, nt, dt⟩ := ht
  have hx' : its.toArray[i]? = some x := by simpa using hx
  unfold Builtin.SmallTypes.nextOf
  refine wpAny_bind (wpAny_callSpecial?_slot (name := Str.ofString "__next__") hi.typeIs F.slot_tuple_iterator_next (wpAny_call_entry F.slot_tuple_iterator_next hi.typeIs F.entry_tuple_iterator_next ?_ (F.args_tuple_iterator_next_1 _)))
  show wpAny _ _ (field (Value.ref it) 0 >>= _) _ _ s
  refine wpAny_bind (wpAny_field gi di (x := Value.ref t) rfl ?_)
  rw [if_neg (show ¬ ((Value.ref t == Value.none) = true) by intro z; cases z)]
  refine wpAny_bind (wpAny_field gi di (x := Value.int i 0) rfl ?_)
  refine wpAny_bind (wpAny_seqItems gt dt ?_)
  simp only [Int.toNat_natCast, hx']
  refine wpAny_bind (wpAny_setField gi di (by simp) (wpAny_pure ⟨x, rfl, wpAny_pure (q _ ?_ (Heap.SameBut.update ..))⟩))
  refine ⟨_, Heap.get?_update_self _ gi (Obj.isFreed_of_fields (Obj.data_mapFields di _)), (Obj.cls_mapFields ..).trans ci, ?_⟩
  rw [Obj.data_mapFields di]
  simp [rawInt]
theorem end_tup {it t : Addr} {i : Nat} {its : List Value} {Q : Value -> Shared -> Prop} (hh : A.handled = none) (hi : s.heap.IsTupleIter it t i) (ht : s.heap.IsTuple t its.toArray) (hx : its.length <= i)
    (q : ∀ h' e, Heap.ExtBut it s.heap h' -> (∃ o, h'.get? e = some o /\ o.cls = .type "StopIteration") -> E (.ref e) { s with heap := h' }) : wpAny (model prog w) A (Builtin.SmallTypes.nextOf (.ref it)) Q E s := by
  obtain ⟨oi, gi, ci, di⟩ := id hi
  obtain ⟨ot, gt, _, nt, dt⟩ := ht
  have hx' : its.toArray[i]? = none := by simpa using hx
  unfold Builtin.SmallTypes.nextOf
  refine wpAny_bind (wpAny_callSpecial?_slot (name := Str.ofString "__next__") hi.typeIs F.slot_tuple_iterator_next (wpAny_call_entry F.slot_tuple_iterator_next hi.typeIs F.entry_tuple_iterator_next ?_ (F.args_tuple_iterator_next_1 _)))
  show wpAny _ _ (field (Value.ref it) 0 >>= _) _ _ s
  refine wpAny_bind (wpAny_field gi di (x := Value.ref t) rfl ?_)
  rw [if_neg (show ¬ ((Value.ref t == Value.none) = true) by intro z; cases z)]
  refine wpAny_bind (wpAny_field gi di (x := Value.int i 0) rfl ?_)
  refine wpAny_bind (wpAny_seqItems gt dt ?_)
  simp only [Int.toNat_natCast, hx']
  refine wpAny_bind (wpAny_rule (wpAny_bind (wpAny_setField gi di (by simp) (wpAny_bind ?_))))
  simp only [newExc, newTuple]
  refine wpAny_bind (wpAny_newObj_type (wpAny_bind (m := firstArgMember _ _) (wpAny_of_eq (a := Value.none) ?_ (wpAny_newObj_type ?_ (by size_fits)))) (by size_fits))
  · first | rfl | (simp only [firstArgMember]; rfl)
  simp only [raiseNew]
  refine wpAny_bind (wpAny_handled ?_)
  first | rw [show A.in1.handled = none from hh] | rw [hh]
  exact wpAny_bind (wpAny_pure (wpAny_throw (q _ _ (((Heap.SameBut.update ..).extBut.push _).push _) ⟨_, Heap.get?_push_size _ rfl, rfl⟩)))
theorem next_seq {k : Kd} {it a : Addr} {i : Nat} {its : List Value} {x : Value} {Q : Value -> Shared -> Prop} (hi : ItAt k s.heap it a i) (hs : SeqIs k s.heap a its) (hx : its[i]? = some x)
    (q : ∀ h', ItAt k h' it a (i + 1) -> Heap.SameBut it s.heap h' -> Q x { s with heap := h' }) : wpAny (model prog w) A (Builtin.SmallTypes.nextOf (.ref it)) Q E s := by
  cases k with
  | l => exact wpAny_nextOf_list_item hi hs (by simpa using hx) q
  | t => exact next_tup hi hs hx q
theorem end_seq {k : Kd} {it a : Addr} {i : Nat} {its : List Value} {Q : Value -> Shared -> Prop} (hh : A.handled = none) (hi : ItAt k s.heap it a i) (hs : SeqIs k s.heap a its) (hx : its.length <= i)
    (q : ∀ h' e, Heap.ExtBut it s.heap h' -> (∃ o, h'.get? e = some o /\ o.cls = .type "StopIteration") -> E (.ref e) { s with heap := h' }) : wpAny (model prog w) A (Builtin.SmallTypes.nextOf (.ref it)) Q E s := by
  cases k with
  | l => exact wpAny_nextOf_list_end hh hi hs (by simpa using hx) q
  | t => exact end_tup hh hi hs hx q
theorem iter_seq {k : Kd} {a : Addr} {its : List Value} {Q : Value -> Shared -> Prop} (hs : SeqIs k s.heap a its)
    (q : Q (.ref s.heap.objs.size) { s with heap := s.heap.push { cls := .type (iterTy k), data := .fields #[.ref a, .int 0 0] } }) : wpAny (model prog w) A (pyIter (.ref a)) Q E s := by
  cases k with
  | l => exact wpAny_pyIter_list hs q
  | t => exact wpAny_pyIter_tuple hs q
theorem iter_at {k : Kd} {h : Heap} {a : Addr} : ItAt k (h.push { cls := .type (iterTy k), data := .fields #[.ref a, .int 0 0] }) h.objs.size a 0 := by
  cases k with
  | l => exact ⟨_, Heap.get?_push_size _ rfl, rfl, rfl⟩
  | t => exact ⟨_, Heap.get?_push_size _ rfl, rfl, rfl⟩
end
open AutoSeq1 (wpAny_loadPart')
section
variable {prog : Program} {w : World} {A : Around} {E : Value -> Shared -> Prop} {s : Shared}
end
theorem Inv.seq_inj {X : Cx} {pins : List (Addr × Obj)} {σ : St} {H : Hp} {s : Shared} (I : Inv X pins σ H s) {k : Kd} {a : Addr} {xs ys : List V} (h : SqK k X.K H a xs) (h' : SqK k X.K H a ys) : xs = ys := by
  cases k with
  | l => exact I.list_inj h h'
  | t => exact I.tuple_inj h h'
open AutoSeq1 (wpAny_loadPart')
structure ZipAt (h : Heap) (k1 k2 : Kd) (z TI TO i1 i2 l1 l2 : Addr) (f0 : Value) (n : Nat) : Prop where
  zz : IsZip h z TI TO f0
  ti : IsPair h TI (.ref i1) (.ref i2)
  to : ∃ a b, IsPair h TO a b
  a1 : ItAt k1 h i1 l1 n
  a2 : ItAt k2 h i2 l2 n
structure ZipNe (z TI TO i1 i2 : Addr) : Prop where
  TIz : TI ≠ z
  TOz : TO ≠ z
  i1z : i1 ≠ z
  i2z : i2 ≠ z
  TITO : TI ≠ TO
  TIi1 : TI ≠ i1
  TIi2 : TI ≠ i2
  TOi1 : TO ≠ i1
  TOi2 : TO ≠ i2
  i12 : i1 ≠ i2
section
variable {prog : Program} {w : World} {A : Around} {E : Value -> Shared -> Prop} {s : Shared}
theorem zip_step {k1 k2 : Kd} {z TI TO i1 i2 l1 l2 : Addr} {n : Nat} {xs ys : List Value} {x y : Value} {Q : Value -> Shared -> Prop} (D : ZipNe z TI TO i1 i2) (Z : ZipAt s.heap k1 k2 z TI TO i1 i2 l1 l2 .none n)
    (L1 : ∀ h', (∀ b o, b ≠ z -> b ≠ TO -> b ≠ i1 -> b ≠ i2 -> s.heap.get? b = some o -> h'.get? b = some o) -> SeqIs k1 h' l1 xs) (L2 : ∀ h', (∀ b o, b ≠ z -> b ≠ TO -> b ≠ i1 -> b ≠ i2 -> s.heap.get? b = some o -> h'.get? b = some o) -> SeqIs k2 h' l2 ys)
    (hx : xs[n]? = some x) (hy : ys[n]? = some y)
    (q : ∀ h', ZipAt h' k1 k2 z TI TO i1 i2 l1 l2 (rawInt s.heap.objs.size) (n + 1) -> IsPair h' s.heap.objs.size x y ->
      (∀ c o, c ≠ z -> c ≠ TO -> c ≠ i1 -> c ≠ i2 -> s.heap.get? c = some o -> h'.get? c = some o) -> Q (.ref s.heap.objs.size) { s with heap := h' }) :
    wpAny (model prog w) A (Builtin.«zip.__next__» ⟨[.ref z], []⟩) (fun fin s' => ∃ v, fin = .done (.ret v) /\ Q v s') E s := by
  obtain ⟨zz, ti, ⟨a, b, to⟩, a1, a2⟩ := Z
  show wpAny _ _ (field (Value.ref z) 2 >>= _) _ _ _
  refine wpAny_bind (wpAny_field zz rfl (x := Value.bool false) rfl (wpAny_bind (wpAny_field zz rfl (x := Value.ref TI) rfl (wpAny_bind (wpAny_seqItems ti rfl (wpAny_bind ?_))))))
  unfold Builtin.SmallTypes.ownedTupleIsFree
  refine wpAny_bind (wpAny_field zz rfl (x := Value.none) rfl (wpAny_pure ?_))
  simp only [if_true]
  refine wpAny_bind (wpAny_rule (wpAny_bind (wpAny_field zz rfl (x := Value.ref TO) rfl (wpAny_bind (wpAny_setField_rec zz (by simp) fun g1 z1 b1 => wpAny_bind ?_)))))
  replace z1 : IsZip g1 z TI TO .ellipsis := z1
  replace b1 : Heap.SameBut z s.heap g1 := b1
  simp only [List.zipIdx_cons, List.zipIdx_nil, List.forIn_cons, List.forIn_nil]
  have K1 : ∀ c o, c ≠ z -> c ≠ TO -> c ≠ i1 -> c ≠ i2 -> s.heap.get? c = some o -> g1.get? c = some o := fun c o h1 _ _ _ e => b1.extBut c o h1 e
  refine wpAny_bind (wpAny_bind (wpAny_onRaise (wpAny_bind (next_seq (s := { s with heap := g1 }) (a1.kept fun o e => b1.extBut _ o D.i1z e) (L1 g1 K1) hx fun g2 j1 b2 => wpAny_pure ?_))))
  replace b2 : Heap.SameBut i1 g1 g2 := b2
  have t2 : IsPair g2 TO a b := b2.extBut _ _ D.TOi1 (b1.extBut _ _ D.TOz to)
  refine wpAny_bind (wpAny_seqItems t2 rfl (wpAny_bind (wpAny_updateSeq_pair t2 fun g3 t3 b3 => ?_)))
  replace t3 : IsPair g3 TO x b := t3
  replace b3 : Heap.SameBut TO g2 g3 := b3
  refine wpAny_bind (wpAny_letGo (wpAny_pure ?_))
  have K3 : ∀ c o, c ≠ z -> c ≠ TO -> c ≠ i1 -> c ≠ i2 -> s.heap.get? c = some o -> g3.get? c = some o := fun c o h1 h2 h3 h4 e => b3.extBut c o h2 (b2.extBut c o h3 (K1 c o h1 h2 h3 h4 e))
  have a3 : ItAt k2 g3 i2 l2 n := a2.kept fun o e => b3.extBut _ o D.TOi2.symm (b2.extBut _ o D.i12.symm (b1.extBut _ o D.i2z e))
  refine wpAny_bind (wpAny_bind (wpAny_onRaise (wpAny_bind (next_seq (s := { s with heap := g3 }) a3 (L2 g3 K3) hy fun g4 j2 b4 => wpAny_pure ?_))))
  replace b4 : Heap.SameBut i2 g3 g4 := b4
  have t4 : IsPair g4 TO x b := b4.extBut _ _ D.TOi2 t3
  refine wpAny_bind (wpAny_seqItems t4 rfl (wpAny_bind (wpAny_updateSeq_pair t4 fun g5 t5 b5 => ?_)))
  replace t5 : IsPair g5 TO x y := t5
  replace b5 : Heap.SameBut TO g4 g5 := b5
  refine wpAny_bind (wpAny_letGo (wpAny_pure (wpAny_pure (wpAny_bind (wpAny_seqItems t5 rfl (wpAny_bind (wpAny_newTuple ?_)))))))
  have sz : g5.objs.size = s.heap.objs.size := by rw [b5.1, b4.1, b3.1, b2.1, b1.1]
  have z5 : IsZip g5 z TI TO .ellipsis := b5.extBut _ _ D.TOz.symm (b4.extBut _ _ D.i2z.symm (b3.extBut _ _ D.TOz.symm (b2.extBut _ _ D.i1z.symm z1)))
  have K5 : ∀ c o, c ≠ z -> c ≠ TO -> c ≠ i1 -> c ≠ i2 -> s.heap.get? c = some o -> g5.get? c = some o := fun c o h1 h2 h3 h4 e => b5.extBut c o h2 (b4.extBut c o h4 (K3 c o h1 h2 h3 h4 e))
  have m1 : ItAt k1 g5 i1 l1 (n + 1) := j1.kept fun o e => b5.extBut _ o D.TOi1.symm (b4.extBut _ o D.i12 (b3.extBut _ o D.TOi1.symm e))
  have m2 : ItAt k2 g5 i2 l2 (n + 1) := j2.kept fun o e => b5.extBut _ o D.TOi2.symm e
  have zl : z < g5.objs.size := Heap.lt_size z5
  show wpAny _ _ (Builtin.SmallTypes.ownedTupleHandOut (Value.ref z) (Value.ref g5.objs.size) >>= _) _ _ _
  refine wpAny_bind ?_
  unfold Builtin.SmallTypes.ownedTupleHandOut
  have z6 : IsZip (g5.push { cls := .type "tuple", data := .seq #[x, y] }) z TI TO .ellipsis := Heap.get?_push_of_some _ z5
  refine wpAny_bind (wpAny_setField_rec z6 (by simp) fun g7 z7 b7 => wpAny_setField_rec z7 (by simp) fun g8 z8 b8 => ?_)
  replace z8 : IsZip g8 z TI TO (rawInt g5.objs.size) := z8
  replace b8 : Heap.SameBut z g7 g8 := b8
  replace b7 : Heap.SameBut z (g5.push { cls := .type "tuple", data := .seq #[x, y] }) g7 := b7
  have up : ∀ c o, c ≠ z -> g5.get? c = some o -> g8.get? c = some o := fun c o h e => b8.extBut _ _ h (b7.extBut _ _ h (Heap.get?_push_of_some _ e))
  have t8 : IsPair g8 g5.objs.size x y := b8.extBut _ _ (Nat.ne_of_gt zl) (b7.extBut _ _ (Nat.ne_of_gt zl) (Heap.get?_push_size _ rfl))
  rw [sz] at z8 t8
  refine wpAny_pure ⟨_, rfl, ?_⟩
  show Q (Value.ref g5.objs.size) _
  rw [sz]
  exact q g8 ⟨z8, up _ _ D.TIz (K5 _ _ D.TIz D.TITO D.TIi1 D.TIi2 ti), ⟨_, _, up _ _ D.TOz t5⟩, m1.kept fun o e => up _ o D.i1z e, m2.kept fun o e => up _ o D.i2z e⟩ t8 fun c o h1 h2 h3 h4 e => up c o h1 (K5 c o h1 h2 h3 h4 e)
theorem zip_item {k1 k2 : Kd} {z TI TO i1 i2 l1 l2 : Addr} {n : Nat} {xs ys : List Value} {x y : Value} {Q : Option Value -> Shared -> Prop} (D : ZipNe z TI TO i1 i2) (Z : ZipAt s.heap k1 k2 z TI TO i1 i2 l1 l2 .none n)
    (L1 : ∀ h', (∀ b o, b ≠ z -> b ≠ TO -> b ≠ i1 -> b ≠ i2 -> s.heap.get? b = some o -> h'.get? b = some o) -> SeqIs k1 h' l1 xs) (L2 : ∀ h', (∀ b o, b ≠ z -> b ≠ TO -> b ≠ i1 -> b ≠ i2 -> s.heap.get? b = some o -> h'.get? b = some o) -> SeqIs k2 h' l2 ys)
    (hx : xs[n]? = some x) (hy : ys[n]? = some y)
    (q : ∀ h', ZipAt h' k1 k2 z TI TO i1 i2 l1 l2 (rawInt s.heap.objs.size) (n + 1) -> IsPair h' s.heap.objs.size x y ->
      (∀ c o, c ≠ z -> c ≠ TO -> c ≠ i1 -> c ≠ i2 -> s.heap.get? c = some o -> h'.get? c = some o) -> Q (some (.ref s.heap.objs.size)) { s with heap := h' }) :
    wpAny (model prog w) A (pyNext (.ref z)) Q E s := by
  have ty : s.TypeIs (.ref z) "zip" := ⟨_, Z.zz, rfl⟩
  unfold pyNext
  exact wpAny_bind (wpAny_attempt (wpAny_callSpecial?_slot (name := Str.ofString "__next__") ty F.slot_zip_next (wpAny_call_entry F.slot_zip_next ty F.entry_zip_next
      (zip_step D Z L1 L2 hx hy fun h' a b c => wpAny_pure (q h' a b c)) (F.args_zip_next_1 _))))
theorem zip_done {k1 k2 : Kd} {z TI TO i1 i2 l1 l2 : Addr} {n : Nat} {xs : List Value} {Q : Option Value -> Shared -> Prop} (hh : A.handled = none) (D : ZipNe z TI TO i1 i2) (Z : ZipAt s.heap k1 k2 z TI TO i1 i2 l1 l2 .none n)
    (L1 : ∀ h', (∀ b o, b ≠ z -> b ≠ TO -> b ≠ i1 -> b ≠ i2 -> s.heap.get? b = some o -> h'.get? b = some o) -> SeqIs k1 h' l1 xs) (hx : xs.length <= n)
    (q : ∀ h', (∀ c o, c ≠ z -> c ≠ TO -> c ≠ i1 -> c ≠ i2 -> s.heap.get? c = some o -> h'.get? c = some o) -> Q none { s with heap := h' }) : wpAny (model prog w) A (pyNext (.ref z)) Q E s := by
  have ty : s.TypeIs (.ref z) "zip" := ⟨_, Z.zz, rfl⟩
  obtain ⟨zz, ti, ⟨a, b, to⟩, a1, a2⟩ := Z
  unfold pyNext
  refine wpAny_bind (wpAny_attempt (wpAny_callSpecial?_slot (name := Str.ofString "__next__") ty F.slot_zip_next (wpAny_call_entry F.slot_zip_next ty F.entry_zip_next ?_ (F.args_zip_next_1 _))))
  show wpAny _ _ (field (Value.ref z) 2 >>= _) _ _ _
  refine wpAny_bind (wpAny_field zz rfl (x := Value.bool false) rfl (wpAny_bind (wpAny_field zz rfl (x := Value.ref TI) rfl (wpAny_bind (wpAny_seqItems ti rfl (wpAny_bind ?_))))))
  unfold Builtin.SmallTypes.ownedTupleIsFree
  refine wpAny_bind (wpAny_field zz rfl (x := Value.none) rfl (wpAny_pure ?_))
  simp only [if_true]
  refine wpAny_bind (wpAny_rule (wpAny_bind (wpAny_field zz rfl (x := Value.ref TO) rfl (wpAny_bind (wpAny_setField_rec zz (by simp) fun g1 z1 b1 => wpAny_bind ?_)))))
  replace z1 : IsZip g1 z TI TO .ellipsis := z1
  replace b1 : Heap.SameBut z s.heap g1 := b1
  simp only [List.zipIdx_cons, List.zipIdx_nil, List.forIn_cons, List.forIn_nil]
  have K1 : ∀ c o, c ≠ z -> c ≠ TO -> c ≠ i1 -> c ≠ i2 -> s.heap.get? c = some o -> g1.get? c = some o := fun c o h1 _ _ _ e => b1.extBut c o h1 e
  refine wpAny_bind (wpAny_bind (wpAny_onRaise (wpAny_bind (end_seq (s := { s with heap := g1 }) hh (a1.kept fun o e => b1.extBut _ o D.i1z e) (L1 g1 K1) hx fun g2 e b2 he => ?_))))
  replace b2 : Heap.ExtBut i1 g1 g2 := b2
  obtain ⟨oe, hoe, hce⟩ := he
  have z2 : IsZip g2 z TI TO .ellipsis := b2 _ _ D.i1z.symm z1
  have ez : e ≠ z := fun x => by subst x; rw [z2] at hoe; cases hoe; simp at hce
  refine wpAny_setField_rec z2 (by simp) fun g3 _ b3 => ?_
  replace b3 : Heap.SameBut z g2 g3 := b3
  refine wpAny_bind (wpAny_isInstance (T := "StopIteration") (b := true) ⟨oe, b3.extBut _ _ ez hoe, hce⟩ isSubtype_stop (wpAny_pure (q g3 fun c o h1 h2 h3 h4 x => b3.extBut _ _ h1 (b2 _ _ h3 (b1.extBut _ _ h1 x)))))
theorem zip_go {elts : List Expr} {x1 : Nat} {pos : Pos} {z TI TO T : Addr} {Q : Unit -> Shared -> Prop} (hz : IsZip s.heap z TI TO (rawInt T))
    (q : ∀ h', IsZip h' z TI TO .none -> Heap.SameBut z s.heap h' -> Q () { s with heap := h' }) : wpAny (model prog w) A (letOwnedTupleGo (.Tuple elts x1 pos) (.ref z) (.ref T)) Q E s := wpAny_letOwnedTupleGo_zip hz q
abbrev zp1 (k1 : Kd) (h : Heap) (l1 : Addr) : Heap := h.push { cls := .type (iterTy k1), data := .fields #[.ref l1, .int 0 0] }
abbrev zp2 (k1 k2 : Kd) (h : Heap) (l1 l2 : Addr) : Heap := (zp1 k1 h l1).push { cls := .type (iterTy k2), data := .fields #[.ref l2, .int 0 0] }
abbrev zp3 (k1 k2 : Kd) (h : Heap) (l1 l2 : Addr) : Heap := (zp2 k1 k2 h l1 l2).push { cls := .type "tuple", data := .seq #[.ref h.objs.size, .ref (zp1 k1 h l1).objs.size] }
abbrev zp4 (k1 k2 : Kd) (h : Heap) (l1 l2 : Addr) : Heap := (zp3 k1 k2 h l1 l2).push { cls := .type "tuple", data := .seq #[.none, .none] }
abbrev zp5 (k1 k2 : Kd) (h : Heap) (l1 l2 : Addr) : Heap := (zp4 k1 k2 h l1 l2).push { cls := .type "zip", data := .fields #[.none, .bool false, .bool false, .ref (zp2 k1 k2 h l1 l2).objs.size, .ref (zp3 k1 k2 h l1 l2).objs.size] }
theorem zip_new (k1 k2 : Kd) (l1 l2 : Addr) (xs ys : List Value) :
    Meets (Builtin.«zip.__new__» ⟨[.type "zip", .ref l1, .ref l2], []⟩) (fun _ R s => SeqIs k1 s.heap l1 xs /\ SeqIs k2 s.heap l2 ys /\
      R (.ok (.ret (.ref (zp4 k1 k2 s.heap l1 l2).objs.size))) { s with heap := zp5 k1 k2 s.heap l1 l2 }) :=
  .of_wp fun prog w A R s h => by
    obtain ⟨hp, g, d, tk, os⟩ := s
    obtain ⟨h1, h2, h⟩ := h
    have hsub := sub_zip
    have hL1 : SeqIs k1 (Shared.heap ⟨hp, g, d, tk, os⟩) l1 xs := h1
    have hL2 : SeqIs k2 (Shared.heap ⟨zp1 k1 hp l1, g, d, tk, os⟩) l2 ys := h2.kept fun o e => Heap.get?_push_of_some _ e
    wp_walk using iter_seq hL1, iter_seq hL2
    exact ⟨_, rfl, h⟩
theorem call_zip {k1 k2 : Kd} {l1 l2 : Addr} {xs ys : List Value} {Q : Value -> Shared -> Prop} (h1 : SeqIs k1 s.heap l1 xs) (h2 : SeqIs k2 s.heap l2 ys)
    (q : ∀ h', ZipAt h' k1 k2 (s.heap.objs.size + 4) (s.heap.objs.size + 2) (s.heap.objs.size + 3) s.heap.objs.size (s.heap.objs.size + 1) l1 l2 .none 0 ->
      (∀ c o, s.heap.get? c = some o -> h'.get? c = some o) -> Q (.ref (s.heap.objs.size + 4)) { s with heap := h' }) :
    wpAny (model prog w) A (call (.type "zip") [.ref l1, .ref l2]) Q E s := by
  refine callType_new F.called_zip (by decide) (F.typeCall_zip_2 _ _) (F.newCall_zip_2 _ _) (fun obj => F.args_object_init_3 obj _ _) F.entry_zip_new (zip_new k1 k2 l1 l2 xs ys) ⟨h1, h2, ?_⟩
  have z1 : (zp1 k1 s.heap l1).objs.size = s.heap.objs.size + 1 := Heap.size_push ..
  have z2 : (zp2 k1 k2 s.heap l1 l2).objs.size = s.heap.objs.size + 2 := by rw [Heap.size_push, z1]
  have z3 : (zp3 k1 k2 s.heap l1 l2).objs.size = s.heap.objs.size + 3 := by rw [Heap.size_push, z2]
  have z4 : (zp4 k1 k2 s.heap l1 l2).objs.size = s.heap.objs.size + 4 := by rw [Heap.size_push, z3]
  have u : ∀ {h : Heap} {o : Obj} {b : Addr} {v : Obj}, h.get? b = some v -> (h.push o).get? b = some v := fun e => Heap.get?_push_of_some _ e
  have g5 : (zp5 k1 k2 s.heap l1 l2).get? (zp4 k1 k2 s.heap l1 l2).objs.size = some _ := Heap.get?_push_size _ rfl
  have g4 : (zp5 k1 k2 s.heap l1 l2).get? (zp3 k1 k2 s.heap l1 l2).objs.size = some _ := u (Heap.get?_push_size _ rfl)
  have g3 : (zp5 k1 k2 s.heap l1 l2).get? (zp2 k1 k2 s.heap l1 l2).objs.size = some _ := u (u (Heap.get?_push_size _ rfl))
  have g2 : ItAt k2 (zp5 k1 k2 s.heap l1 l2) (zp1 k1 s.heap l1).objs.size l2 0 := (iter_at (k := k2) (h := zp1 k1 s.heap l1) (a := l2)).kept fun o e => u (u (u e))
  have g1 : ItAt k1 (zp5 k1 k2 s.heap l1 l2) s.heap.objs.size l1 0 := (iter_at (k := k1) (h := s.heap) (a := l1)).kept fun o e => u (u (u (u e)))
  show _ /\ _
  rw [z2, z3, z4] at g5
  rw [z1, z2] at g3
  rw [z3] at g4
  rw [z1] at g2
  rw [z4]
  exact ⟨⟨_, g5, rfl⟩, q _ ⟨g5, g3, ⟨_, _, g4⟩, g1, g2⟩ fun c o x => u (u (u (u (u x))))⟩
end
def ItZ (k1 k2 : Kd) (K : PySem.W.Frag) (a b : Addr) : It :=
  ⟨fun i H => ∃ xs ys x y, SqK k1 K H a xs /\ SqK k2 K H b ys /\ xs[i]? = some x /\ ys[i]? = some y,
   fun i H v H' => ∃ p x y, H p = none /\ v = .ref p /\ (∀ xs, SqK k1 K H a xs -> xs[i]? = some x) /\ (∀ ys, SqK k2 K H b ys -> ys[i]? = some y) /\ H' = upd H p (.tup [x, y]),
   fun i H => ∃ xs, SqK k1 K H a xs /\ xs.length <= i⟩
theorem Inv.seq_ne {X : Cx} {pins : List (Addr × Obj)} {σ : St} {H : Hp} {s : Shared} (I : Inv X pins σ H s) {k : Kd} {a b : Addr} {xs : List V} (h : SqK k X.K H a xs) (f : FpOk X pins H b) : a ≠ b := by
  rintro rfl
  have hn := f.1
  have young : ∀ o, X.K.lookup a = some o -> False := fun o e => by
    have e1 := I.mod.kin a o e
    rcases f.2.2.2.1 with z | z
    · exact I.ok.noex a o e1 z
    · exact absurd (Nat.lt_of_lt_of_le (Heap.lt_size e1) (Nat.le_trans I.ok.bsz z)) (Nat.lt_irrefl _)
  cases k with
  | l =>
    rcases h with h | ⟨o, _, _, e, _⟩
    · rcases h with h | ⟨o, h⟩ <;> (rw [hn] at h; cases h)
    · exact young o e
  | t =>
    rcases h with h | ⟨o, _, _, e, _⟩
    · rcases h with h | ⟨o, h⟩ <;> (rw [hn] at h; cases h)
    · exact young o e
theorem turn_zip {P : Program} {w : World} {K : PySem.W.Frag} {elts : List Expr} {x1 : Nat} {tpos : Pos} (k1 k2 : Kd) (a b z TI TO i1 i2 : Addr) (D : ZipNe z TI TO i1 i2) :
    Turn P w K (.Tuple elts x1 tpos) (ItZ k1 k2 K a b) [z, TI, TO, i1, i2] z (fun i h => ZipAt h k1 k2 z TI TO i1 i2 a b .none i) where
  mem := by simp
  obj := fun i h st c hc => by
    obtain ⟨zz, ti, ⟨u, v, to⟩, a1, a2⟩ := st
    simp at hc
    rcases hc with rfl | rfl | rfl | rfl | rfl
    · exact ⟨_, zz, fun v z => by cases z⟩
    · exact ⟨_, ti, fun v z => by cases z⟩
    · exact ⟨_, to, fun v z => by cases z⟩
    · exact a1.obj
    · exact a2.obj
  keep := fun i h h' st kk => by
    obtain ⟨zz, ti, ⟨u, v, to⟩, a1, a2⟩ := st
    exact ⟨kk z (by simp) _ zz, kk TI (by simp) _ ti, ⟨u, v, kk TO (by simp) _ to⟩, a1.kept fun o e => kk i1 (by simp) o e, a2.kept fun o e => kk i2 (by simp) o e⟩
  item := by
    intro X hP hw hK hc i pins s σ H E I hf st hg
    subst hP hw hK
    obtain ⟨xs, ys, x, y, hq1, hq2, hx, hy⟩ := hg
    obtain ⟨its1, r1, s1, _⟩ := I.seq hq1
    obtain ⟨its2, r2, s2, _⟩ := I.seq hq2
    obtain ⟨u1, e1, ru1⟩ := r1.get hx
    obtain ⟨u2, e2, ru2⟩ := r2.get hy
    have nz := hf z (by simp)
    have nO := hf TO (by simp)
    have n1 := hf i1 (by simp)
    have n2 := hf i2 (by simp)
    refine zip_item D st (fun h' kk => s1.kept fun o e => kk a o (I.seq_ne hq1 nz) (I.seq_ne hq1 nO) (I.seq_ne hq1 n1) (I.seq_ne hq1 n2) e)
      (fun h' kk => s2.kept fun o e => kk b o (I.seq_ne hq2 nz) (I.seq_ne hq2 nO) (I.seq_ne hq2 n1) (I.seq_ne hq2 n2) e) e1 e2 fun h' c1 c2 c3 => ⟨_, rfl, ?_⟩
    refine zip_go (s := { s with heap := h' }) c1.zz fun h2 d1 d2 => ?_
    replace d2 : Heap.SameBut z h' h2 := d2
    have zl : z < s.heap.objs.size := Heap.lt_size st.zz
    have lt : ∀ c ∈ [z, TI, TO, i1, i2], c < s.heap.objs.size := fun c hc => by
      obtain ⟨zz, ti, ⟨u, v, to⟩, a1, a2⟩ := st
      simp at hc
      rcases hc with rfl | rfl | rfl | rfl | rfl
      · exact zl
      · exact Heap.lt_size ti
      · exact Heap.lt_size to
      · obtain ⟨o, e, _⟩ := a1.obj; exact Heap.lt_size e
      · obtain ⟨o, e, _⟩ := a2.obj; exact Heap.lt_size e
    have kk : ∀ c o, c ∉ [z, TI, TO, i1, i2] -> s.heap.get? c = some o -> h2.get? c = some o := fun c o hc q => by
      simp at hc
      exact d2.extBut c o hc.1 (c3 c o hc.1 hc.2.2.1 hc.2.2.2.1 hc.2.2.2.2 q)
    have tt : IsPair h2 s.heap.objs.size u1 u2 := d2.extBut _ _ (Nat.ne_of_gt zl) c2
    have fr : H s.heap.objs.size = none := I.hok.fresh (Nat.le_refl _)
    refine ⟨.ref s.heap.objs.size, upd H s.heap.objs.size (.tup [x, y]), I.turnNew (t' := s.toks) hf kk (Nat.le_refl _) ?_, rfl, ⟨_, x, y, fr, rfl, fun vs hv => ?_, fun vs hv => ?_, rfl⟩, ?_, fun c hc => ?_⟩
    · exact ⟨by show 2 <= sizeLine; decide, [u1, u2], .cons ru1 (.cons ru2 .nil), ⟨_, tt, rfl, 0, rfl⟩⟩
    · rw [I.seq_inj hv hq1]; exact hx
    · rw [I.seq_inj hv hq2]; exact hy
    · obtain ⟨zz, ti, ⟨u, v, to⟩, a1, a2⟩ := c1
      exact ⟨d1, d2.extBut _ _ D.TIz ti, ⟨u, v, d2.extBut _ _ D.TOz to⟩, a1.kept fun o e => d2.extBut _ o D.i1z e, a2.kept fun o e => d2.extBut _ o D.i2z e⟩
    · rw [upd_ne (Nat.ne_of_lt (lt c hc))]
      exact (hf c hc).1
  done := by
    intro X hP hw hK hc i pins s σ H E I hf st hg
    subst hP hw hK
    obtain ⟨xs, hq1, hx⟩ := hg
    obtain ⟨its1, r1, s1, _⟩ := I.seq hq1
    have nz := hf z (by simp)
    have nO := hf TO (by simp)
    have n1 := hf i1 (by simp)
    have n2 := hf i2 (by simp)
    exact zip_done (I.ok.hd hc) D st (fun h' kk => s1.kept fun o e => kk a o (I.seq_ne hq1 nz) (I.seq_ne hq1 nO) (I.seq_ne hq1 n1) (I.seq_ne hq1 n2) e) (by rw [<- r1.length]; exact hx)
      fun h' kk => ⟨rfl, I.turnM (t' := s.toks) hf fun c o hc q => by simp at hc; exact kk c o hc.1 hc.2.2.1 hc.2.2.2.1 hc.2.2.2.2 q⟩
  self := fun _ _ _ _ _ st h => wpAny_pyIter_zip st.zz h
theorem boot_zip' : bootBuiltins "zip" = some (.type "zip") := by first | rfl | decide +kernel
theorem zipNe (n : Nat) : ZipNe (n + 4) (n + 2) (n + 3) n (n + 1) := by
  refine ⟨?_, ?_, ?_, ?_, ?_, ?_, ?_, ?_, ?_, ?_⟩ <;> (intro z; have z' : (_ : Nat) = _ := z; omega)
structure Src (K : PySem.W.Frag) (mg : Str -> Option Value) (x : Str) (st : Stmt) (ps : List Str) : Prop where
  ex : ∃ f fd, Fun K x x st f fd /\ Binds K fd ps [] /\ mg x = some (.ref f)
structure Def (P : Program) (w : World) (K : PySem.W.Frag) (mg : Str -> Option Value) (base : Heap) (k : Nat) (x : Str) (ps : List Str) (sp : Sp) : Prop where
  ex : ∃ f fd, FnOk P w K mg base CX0 k f fd ps sp /\ Binds K fd ps [] /\ mg x = some (.ref f) /\ PySem.W.keepIn K (.ref f) = true
theorem Src.def {P : Program} {w : World} {K : PySem.W.Frag} {mg : Str -> Option Value} {base : Heap} {k : Nat} {x : Str} {st : Stmt} {N ps : List Str} {sp : Sp} (S : Src K mg x st ps) (sc : FnScope N ps (defScope st)) (len : ∀ vs H Q E, sp vs H Q E -> vs.length = ps.length)
    (hbody : ∀ (f : Addr) (cdv : Value) (A : Around) (outer : List Env) (s : Shared) (H : Hp) (vs : List V) (Q : VK) (E : XK), Room k (A.deeper (envOfC x (defScope st) s.heap.objs.size f cdv)) -> sp vs H Q E ->
      ∃ t, PSs (cxOf CX0 P w K mg base N x (defScope st) f cdv A outer s H E).nox (defBody st) t /\ t { nx := fun _ H' => Q .non H', rt := Q } (start N vs) H) : Def P w K mg base (k + 1) x ps sp := by
  obtain ⟨f, fd, F, b, m⟩ := S.ex
  exact ⟨f, fd, F.ok sc len (hbody f), b, m, F.kp⟩
theorem pe_def {X : Cx} {k : Nat} {x : Str} {ps : List Str} {sp : Sp} {e : Expr} {es : List Expr} {t : TA} {p pos : Pos} (D : Def X.prog X.w X.K X.mg X.base k x ps sp) (hr : Room k X.A) (hg : Gl X x) (ha : PA X (e :: es) t)
    (hdb : (x == ("__debug__" : Str)) = false := by decide) (he : starEach (e :: es) X.env = (false, eval e X.env) :: starEach es X.env := by rfl) (hpl : (backTo pos (starEach es X.env)).any (·.1) = false := by rfl) :
    PE X (.Call (.Name x p) (e :: es) [] pos) (tCall sp [] E0 t) := by
  obtain ⟨f, fd, F, b, m, kp⟩ := D.ex
  exact pe_call F hr hg m kp b .nil pass0 ha hdb he hpl
theorem Same.tup {K : PySem.W.Frag} {H H' : Hp} {a : Addr} {xs : List V} (e : Same H H') (h : SqT K H a xs) : SqT K H' a xs := by
  rcases h with (h | ⟨o, h⟩) | h
  · exact .inl (.inl (e _ _ h))
  · exact .inl (.inr ⟨o, e _ _ h⟩)
  · exact .inr h
theorem Same.seqK {K : PySem.W.Frag} {H H' : Hp} {k : Kd} {a : Addr} {xs : List V} (e : Same H H') (h : SqK k K H a xs) : SqK k K H' a xs := by
  cases k with
  | l => exact e.seq h
  | t => exact e.tup h
theorem Same.new {H : Hp} {p : Addr} {o : HO} (h : H p = none) : Same H (upd H p o) := fun b u e => by rw [upd_ne (ne_of_none e h)]; exact e
theorem Paired.at {α β : Type} {F : α -> β -> Prop} : ∀ {l₁ : List α} {l₂ : List β}, Paired F l₁ l₂ -> ∀ {i : Nat} {a : α}, l₁[i]? = some a -> ∃ b, l₂[i]? = some b /\ F a b
  | _, _, .nil, i, a, e => by simp at e
  | _, _, .cons r t, 0, a, e => by simp at e; subst e; exact ⟨_, rfl, r⟩
  | _, _, .cons r t, i + 1, a, e => by
    obtain ⟨b, h1, h2⟩ := Paired.at t (i := i) (by simpa using e)
    exact ⟨b, by simpa using h1, h2⟩
theorem Paired.snoc {α β : Type} {F : α -> β -> Prop} : ∀ {l₁ : List α} {l₂ : List β}, Paired F l₁ l₂ -> ∀ {a : α} {b : β}, F a b -> Paired F (l₁ ++ [a]) (l₂ ++ [b])
  | _, _, .nil, _, _, h => .cons h .nil
  | _, _, .cons r t, _, _, h => .cons r (Paired.snoc t h)
theorem take_succ_of {α : Type} {l : List α} {i : Nat} {a : α} (h : l[i]? = some a) : l.take (i + 1) = l.take i ++ [a] := by
  rw [List.take_add_one, h]; rfl
def ItK (k : Kd) (K : PySem.W.Frag) (a : Addr) : It := match k with | .l => Itl K a | .t => Itt K a
def iSeq (k : Kd) (K : PySem.W.Frag) (tl : TE) : TI := fun σ H R => tl σ H fun x H1 => ∃ a, x = .ref a /\ (∃ xs, SqK k K H1 a xs) /\ R (ItK k K a) H1
theorem pi_seq {X : Cx} {tg : Expr} (k : Kd) {l : Expr} {tl : TE} (hl : PE X l tl) : PI X tg l (iSeq k X.K tl) := by
  cases k with
  | l => exact pi_list hl
  | t => exact pi_tup hl
theorem itk_go {k : Kd} {K : PySem.W.Frag} {H : Hp} {a : Addr} {xs : List V} {i : Nat} (h : SqK k K H a xs) (hi : i < xs.length) : (ItK k K a).go i H := by
  cases k with
  | l => exact ⟨xs, xs[i], h, by simp [hi]⟩
  | t => exact ⟨xs, xs[i], h, by simp [hi]⟩
theorem itk_stop {k : Kd} {K : PySem.W.Frag} {H : Hp} {a : Addr} {xs : List V} {i : Nat} (h : SqK k K H a xs) (hi : xs.length <= i) : (ItK k K a).stop i H := by
  cases k with
  | l => exact ⟨xs, h, hi⟩
  | t => exact ⟨xs, h, hi⟩
theorem itk_yld {k : Kd} {K : PySem.W.Frag} {H H' : Hp} {a : Addr} {xs : List V} {i : Nat} {x : V} (h : SqK k K H a xs) (y : (ItK k K a).yld i H x H') : H' = H /\ xs[i]? = some x := by
  cases k with
  | l => exact ⟨y.1, y.2 xs h⟩
  | t => exact ⟨y.1, y.2 xs h⟩
theorem comp_seq {k : Kd} {K : PySem.W.Frag} {a : Addr} {xs : List V} {g : TG} {tt : TT} {te : TE} {fin : List V -> Hp -> Prop} {σ : St} {H : Hp} (S : St -> Prop) (Pv : Nat -> List V -> Hp -> Prop) (hσ : S σ) (h0 : Pv 0 [] H) (hz : xs.length < sizeLine)
    (hl : ∀ i ys H, i <= xs.length -> Pv i ys H -> SqK k K H a xs)
    (hs : ∀ (i : Nat) (x : V) (ys : List V) (σ : St) (H : Hp) (N : List V -> St -> Hp -> Prop), xs[i]? = some x -> S σ -> Pv i ys H -> (∀ ys' σ' H', S σ' -> Pv (i + 1) ys' H' -> ys'.length <= ys.length + 1 -> N ys' σ' H') ->
      g x σ H fun σ2 H2 => tt σ2 H2 fun b H3 => if b = true then te σ2 H3 fun y H4 => N (ys ++ [y]) σ2 H4 else N ys σ2 H3)
    (hd : ∀ ys H, Pv xs.length ys H -> fin ys H) : ∃ W, CompW (ItK k K a) g tt te fin W /\ ∃ m, W 0 m [] σ H := by
  refine ⟨fun i m ys σ H => m = xs.length - i /\ i <= xs.length /\ ys.length <= i /\ S σ /\ Pv i ys H, ?_, xs.length, by simp, Nat.zero_le _, Nat.le_refl _, hσ, h0⟩
  rintro i m ys σ H ⟨rfl, hi, hy, hS, p⟩
  have q := hl i ys H hi p
  by_cases hlt : i < xs.length
  · refine .inr ⟨itk_go q hlt, by lia, fun x H' y => ?_⟩
    obtain ⟨e, hy2⟩ := itk_yld q y
    subst e
    have := hs i x ys σ H' (fun ys' σ' H'' => ∃ m', m' < xs.length - i /\ m' = xs.length - (i + 1) /\ i + 1 <= xs.length /\ ys'.length <= i + 1 /\ S σ' /\ Pv (i + 1) ys' H'') hy2 hS p (fun ys' σ' H'' a b c => ⟨_, by lia, rfl, hlt, by lia, a, b⟩)
    exact this
  · have e : i = xs.length := by lia
    subst e
    exact .inl ⟨itk_stop q (Nat.le_refl _), by lia, hd ys H p⟩
theorem units66 {A : Around} {k : Nat} (hr : Room k A) : A.units + 66 < cLine := by have := hr.un; lia
def compB (kinds : List (Str × NameKind)) (N : List Str) (scope : Scope) (N' : List Str) (fr : List (Option Nat)) : Bool :=
  (scope.kind == .function) && (scope.names.all fun y => y.2 != .cell) && (scope.names.all fun y => y.2 != .local || scope.names.lookup y.1 == some .local) &&
  (scope.names.all fun y => y.2 != .free || (kinds.lookup y.1 == some .cell || kinds.lookup y.1 == some .free)) && frOk N kinds scope.names N' fr
theorem compOk_of {X : Cx} {scope : Scope} {N' : List Str} {fr : List (Option Nat)} (h : compB X.env.scope.names X.N scope N' fr = true) : CompOk X scope N' fr := by
  unfold compB at h
  simp only [Bool.and_eq_true, List.all_eq_true] at h
  obtain ⟨⟨⟨⟨h1, h2⟩, h3⟩, h4⟩, h5⟩ := h
  refine ⟨by simpa using h1, fun y hy => by simpa using h2 y hy, fun y hy e => ?_, fun y hy e => ?_, h5⟩
  · have := h3 y hy
    rw [e] at this
    simpa using this
  · have := h4 y hy
    rw [e] at this
    simpa [Env.kindOf] using this
theorem yesT {σ : St} {H : Hp} {A B : Hp -> Prop} (h : A H) : tYes σ H fun b H3 => if b = true then A H3 else B H3 := by
  show if true = true then A H else B H
  exact iteT h
section
open PySem.SeqAt
open PySem.AutoSeq1 (wpAny_loadPart')
open PySem.MeetsSeq PySem.MeetsSeq2 PySem.MeetsSeq3
end
section
variable {X : Cx}
end
theorem comp_range {lo : Int} {n : Nat} {g : TG} {tt : TT} {te : TE} {fin : List V -> Hp -> Prop} {σ : St} {H : Hp} (S : St -> Prop) (Pv : Nat -> List V -> Hp -> Prop) (hσ : S σ) (h0 : Pv 0 [] H) (hz : n < sizeLine)
    (hs : ∀ (i : Nat) (ys : List V) (σ : St) (H : Hp) (N : List V -> St -> Hp -> Prop), i < n -> S σ -> Pv i ys H -> (∀ ys' σ' H', S σ' -> Pv (i + 1) ys' H' -> ys'.length <= ys.length + 1 -> N ys' σ' H') ->
      g (.int (lo + i)) σ H fun σ2 H2 => tt σ2 H2 fun b H3 => if b = true then te σ2 H3 fun y H4 => N (ys ++ [y]) σ2 H4 else N ys σ2 H3)
    (hd : ∀ ys H, Pv n ys H -> fin ys H) : ∃ W, CompW (Itr lo n) g tt te fin W /\ ∃ m, W 0 m [] σ H := by
  refine ⟨fun i m ys σ H => m = n - i /\ i <= n /\ ys.length <= i /\ S σ /\ Pv i ys H, ?_, n, by simp, Nat.zero_le _, Nat.le_refl _, hσ, h0⟩
  rintro i m ys σ H ⟨rfl, hi, hy, hS, p⟩
  by_cases hlt : i < n
  · refine .inr ⟨hlt, by omega, fun x H' y => ?_⟩
    obtain ⟨e, y⟩ := y
    subst e y
    exact hs i ys σ _ (fun ys' σ' H'' => ∃ m', m' < n - i /\ m' = n - (i + 1) /\ i + 1 <= n /\ ys'.length <= i + 1 /\ S σ' /\ Pv (i + 1) ys' H'') hlt hS p (fun ys' σ' H'' a b c => ⟨_, by omega, rfl, hlt, by omega, a, b⟩)
  · have e : i = n := by omega
    subst e
    exact .inl ⟨Nat.le_refl _, by omega, hd ys H p⟩
theorem ex_eq (S : Array Nat) (a b : Nat) : (S.extract a b).toList = (S.toList.drop a).take (b - a) := by simp [Array.toList_extract, List.extract]
theorem sub_one (x : Str) (c i : Nat) : Builtin.Str.subAt x ⟨#[c]⟩ i = (x.cps.toList[i]? == some c) := by
  unfold Builtin.Str.subAt
  show (x.cps.extract i (i + 1) == #[c]) = _
  rw [Bool.eq_iff_iff, beq_iff_eq, beq_iff_eq]
  constructor
  · intro h
    have h2 := congrArg Array.toList h
    rw [ex_eq, show i + 1 - i = 1 by omega] at h2
    have h3 : ((x.cps.toList.drop i).take 1)[0]? = some c := by rw [h2]; rfl
    rw [List.getElem?_take_of_lt (by decide), List.getElem?_drop] at h3
    simpa using h3
  · intro h
    apply Array.toList_inj.mp
    rw [ex_eq, show i + 1 - i = 1 by omega]
    apply List.ext_getElem?
    intro j
    cases j with
    | zero => rw [List.getElem?_take_of_lt (by decide), List.getElem?_drop]; simpa using h
    | succ j => rw [List.getElem?_take_eq_none (by omega)]; simp
def mkS (l : List Nat) : Str := ⟨l.toArray⟩
theorem mkS_cps (x : Str) : mkS x.cps.toList = x := by cases x; rfl
theorem kind_ge (x : Str) : 1 <= Builtin.Str.strKind x := by
  unfold Builtin.Str.strKind
  split
  · exact Nat.le_refl _
  · split <;> decide
theorem strs_vals : ∀ (l : List (Str × Tok)), Vals (l.map fun p => V.str p.1) (strValues l)
  | [] => .nil
  | (x, t) :: r => .cons ⟨t, rfl⟩ (strs_vals r)
section
variable {X : Cx}
theorem call_intS : CallR X (.type "int") (fun xs H Q => ∃ (z : Str) (n : Int), xs = [.str z] /\ PySem.intText? z = some n /\ z.length <= 640 /\ Q (.int n) H) := by
  intro pins s σ H xs us Q I r h
  obtain ⟨z, n, rfl, hn, hl, q⟩ := h
  obtain ⟨u, rfl, ru⟩ := Vals.one r
  obtain ⟨t, rfl⟩ := ru
  exact PySem.W.KIN.call_text hn hl ⟨.int n, H, I.tok _, ⟨_, rfl⟩, q⟩
def TJ := St -> Hp -> Str -> (Str -> Hp -> Prop) -> Prop
def PJ (X : Cx) (es : List Expr) (t : TJ) : Prop := ∀ (pins : List (Addr × Obj)) (s : Shared) (σ : St) (H : Hp) (acc : Str) (Q : Str -> Hp -> Prop), Inv X pins σ H s -> t σ H acc Q ->
  Joins (model X.prog X.w) X.A X.xe (evalEach es X.env) acc (fun out s1 => ∃ H', Inv X pins σ H' s1 /\ Q out H') s
def tJ0 : TJ := fun _ H acc Q => Q acc H
def tJ1 (te : TE) (tr : TJ) : TJ := fun σ H acc Q => te σ H fun v H1 => ∃ y, v = .str y /\ (acc ++ y).length <= sizeLine /\ tr σ H1 (acc ++ y) Q
theorem pj_nil : PJ X [] tJ0 := fun _ _ _ H _ _ I h => ⟨H, I, h⟩
theorem joins_mono {M : Model} {A : Around} {E : Value -> Shared -> Prop} : ∀ {es : List (Sem Value)} {acc : Str} {Q Q' : Str -> Shared -> Prop} {s : Shared}, (∀ o s, Q o s -> Q' o s) -> Joins M A E es acc Q s -> Joins M A E es acc Q' s
  | [], _, _, _, _, f, h => f _ _ h
  | e :: es, _, _, _, _, f, h => thn h fun v s1 ⟨y, t, e1, e2, e3⟩ => ⟨y, t, e1, e2, joins_mono f e3⟩
theorem pj_cons {e : Expr} {es : List Expr} {te : TE} {tr : TJ} (he : PE X e te) (hr : PJ X es tr) : PJ X (e :: es) (tJ1 te tr) := by
  intro pins s σ H acc Q I h
  show wpAny _ _ (eval e X.env) _ _ s
  refine thn (he pins s σ H _ I h) fun v s1 ⟨x, H1, I1, r1, y, e1, hl, q⟩ => ?_
  subst e1
  obtain ⟨t, rfl⟩ := r1
  exact ⟨y, t, rfl, hl, hr pins s1 σ H1 _ Q I1 q⟩
theorem pe_joined {v1 v2 : Expr} {rest : List Expr} {t : TJ} {pos : Pos} (h : PJ X (v1 :: v2 :: rest) t) : PE X (.JoinedStr (v1 :: v2 :: rest) pos) (fun σ H Q => t σ H Str.empty fun out H' => out.length <= sizeLine /\ Q (.str out) H') := by
  intro pins s σ H Q I hw
  refine wpAny_JoinedStr (joins_mono (fun o s1 ⟨H', I', hl, q⟩ => ⟨hl, ?_⟩) (h pins s σ H _ _ I hw))
  exact ⟨.str o, H', I'.tok _, ⟨_, rfl⟩, q⟩
theorem pe_fint {value : Expr} {te : TE} {pos : Pos} (h : PE X value te) : PE X (.FormattedValue value (-1) none pos) (fun σ H Q => te σ H fun v H1 => ∃ i, v = .int i /\ i.natAbs.log2 < 1920 /\ Q (.str (toString i)) H1) := by
  intro pins s σ H Q I hw
  refine wpAny_FormattedValue_plain (thn (h pins s σ H _ I hw) fun v s1 ⟨x, H1, I1, r1, i, e1, hl, q⟩ => ?_)
  subst e1
  obtain ⟨t, rfl⟩ := r1
  exact wpAny_formatField_int hl ⟨.str _, H1, I1.tok _, ⟨_, rfl⟩, q⟩
theorem strsAre_of {ys : List Str} : ∀ {us : List Value}, Vals (ys.map V.str) us -> StrsAre us ys := by
  induction ys with
  | nil => intro us r; rw [Vals.zero r]; exact .nil
  | cons y ys ih =>
    intro us r
    cases r with
    | cons h t =>
      obtain ⟨tk, rfl⟩ := h
      exact .cons y tk (ih t)
def rJoin (K : PySem.W.Frag) : V -> List V -> Hp -> VK -> Prop := fun x vs H Q => ∃ (z : Str) (l : Addr) (ys : List Str), x = .str z /\ vs = [.ref l] /\ SqL K H l (ys.map V.str) /\ (ys.map (·.length)).sum + ys.length * z.length <= 16777216 /\ Q (.str (Txt.join z ys)) H
theorem mt_join : MtR X "str.join" (rJoin X.K) := by
  intro pins s σ H x xs v us Q I rx r h
  obtain ⟨z, l, ys, rfl, rfl, hl, hs, q⟩ := h
  obtain ⟨t, rfl⟩ := rx
  obtain ⟨u, rfl, ru⟩ := Vals.one r
  cases (show u = Value.ref l from ru)
  obtain ⟨its, r1, t1, _⟩ := I.list hl
  exact join_list t1.isList (by simpa using strsAre_of r1) hs fun t' k => ⟨.str _, H, I.tok _, ⟨_, rfl⟩, q⟩
def Its (z : Str) : It := ⟨fun i _ => i < z.cps.size, fun i H x H' => H' = H /\ ∃ c, z.cps[i]? = some c /\ x = .str ⟨#[c]⟩, fun i _ => z.cps.size <= i⟩
theorem turn_str {P : Program} {w : World} {K : PySem.W.Frag} {tg : Expr} (it : Addr) (z : Str) (t : Tok) : Turn P w K tg (Its z) [it] it (fun i h => h.IsStrIter it "str_ascii_iterator" z t i /\ i <= z.cps.size) where
  mem := by simp
  obj := fun i h st b hb => by
    rw [List.mem_singleton.mp hb]
    obtain ⟨⟨o, ho, hc, hd⟩, _⟩ := st
    exact ⟨o, ho, fun v z => by rw [hd] at z; cases z⟩
  keep := fun i h h' st k => let ⟨⟨o, ho, r⟩, l⟩ := st; ⟨⟨o, k it (by simp) o ho, r⟩, l⟩
  item := by
    intro X hP hw hK hc i pins s σ H E I hf st hg
    subst hP hw hK
    have W := Walks.strAscii (prog := X.prog) (w := X.w) (I.ok.hd hc) it z t
    refine W.item i s _ _ hg st.1 fun v h' tk hv st' kk => ?_
    obtain ⟨c, u, e, rfl⟩ := hv
    have I1 : Inv X pins σ H { s with heap := h', toks := tk } := I.turnM hf kk
    obtain ⟨o, ho, hcl, hd⟩ := st'
    exact ⟨_, rfl, go_of (s := { s with heap := h', toks := tk }) (n := "str_ascii_iterator") ho hcl hd (by decide) ⟨.str ⟨#[c]⟩, H, I1, ⟨u, rfl⟩, ⟨rfl, c, e, rfl⟩, ⟨⟨o, ho, hcl, hd⟩, hg⟩, fun b hb => (hf b hb).1⟩⟩
  done := by
    intro X hP hw hK hc i pins s σ H E I hf st hg
    subst hP hw hK
    have hi : i = z.cps.size := Nat.le_antisymm st.2 hg
    have st1 := st.1
    rw [hi] at st1
    have W := Walks.strAscii (prog := X.prog) (w := X.w) (I.ok.hd hc) it z t
    exact W.done s _ _ st1 fun h' tk kk => ⟨rfl, I.turnM hf kk⟩
  self := fun A i s Q E st h => wpAny_pyIter_striter_ascii st.1 h
def iStr (tl : TE) : TI := fun σ H R => tl σ H fun x H1 => ∃ z, x = .str z /\ z.cps.all (· < 128) = true /\ R (Its z) H1
theorem pi_str {tg l : Expr} {tl : TE} (hl : PE X l tl) : PI X tg l (iStr tl) := by
  intro pins s σ H R I h
  refine thn (hl pins s σ H _ I h) fun v s1 ⟨x, H1, I1, r1, z, e, ha, q⟩ => ?_
  subst e
  obtain ⟨t, rfl⟩ := r1
  refine wpAny_pyIter_ascii ha ?_
  refine ⟨s1.heap.objs.size, [s1.heap.objs.size], _, _, H1, rfl, I1.kept (t' := s1.toks) fun b o e => Heap.get?_push_of_some _ e, turn_str _ z t, ⟨⟨_, Heap.get?_push_size _ rfl, rfl, rfl⟩, Nat.zero_le _⟩, fun b hb => ?_, q⟩
  rw [List.mem_singleton.mp hb]
  exact I1.fpOk (Nat.le_refl _) (I1.hok.fresh (Nat.le_refl _))
theorem comp_str {z : Str} {g : TG} {tt : TT} {te : TE} {fin : List V -> Hp -> Prop} {σ : St} {H : Hp} (S : St -> Prop) (Pv : Nat -> List V -> Hp -> Prop) (hσ : S σ) (h0 : Pv 0 [] H) (hz : z.cps.size < sizeLine)
    (hs : ∀ (i : Nat) (c : Nat) (ys : List V) (σ : St) (H : Hp) (N : List V -> St -> Hp -> Prop), z.cps[i]? = some c -> S σ -> Pv i ys H -> (∀ ys' σ' H', S σ' -> Pv (i + 1) ys' H' -> ys'.length <= ys.length + 1 -> N ys' σ' H') ->
      g (.str ⟨#[c]⟩) σ H fun σ2 H2 => tt σ2 H2 fun b H3 => if b = true then te σ2 H3 fun y H4 => N (ys ++ [y]) σ2 H4 else N ys σ2 H3)
    (hd : ∀ ys H, Pv z.cps.size ys H -> fin ys H) : ∃ W, CompW (Its z) g tt te fin W /\ ∃ m, W 0 m [] σ H := by
  refine ⟨fun i m ys σ H => m = z.cps.size - i /\ i <= z.cps.size /\ ys.length <= i /\ S σ /\ Pv i ys H, ?_, z.cps.size, by simp, Nat.zero_le _, Nat.le_refl _, hσ, h0⟩
  rintro i m ys σ H ⟨rfl, hi, hy, hS, p⟩
  by_cases hlt : i < z.cps.size
  · refine .inr ⟨hlt, by omega, fun x H' y => ?_⟩
    obtain ⟨e, c, hc, rfl⟩ := y
    subst e
    exact hs i c ys σ _ (fun ys' σ' H'' => ∃ m', m' < z.cps.size - i /\ m' = z.cps.size - (i + 1) /\ i + 1 <= z.cps.size /\ ys'.length <= i + 1 /\ S σ' /\ Pv (i + 1) ys' H'') hc hS p (fun ys' σ' H'' a b c => ⟨_, by omega, rfl, hlt, by omega, a, b⟩)
  · have e : i = z.cps.size := by omega
    subst e
    exact .inl ⟨Nat.le_refl _, by omega, hd ys H p⟩
end
theorem ObjOk.there {P : Program} {w : World} {H : Hp} {h : Heap} {a : Addr} {o : HO} (x : ObjOk P w H h a o) : ∃ u, h.get? a = some u := by
  cases o with
  | lst xs => obtain ⟨_, _, _, _, e⟩ := x; exact ⟨_, e⟩
  | tup xs => obtain ⟨_, _, _, _, e, _⟩ := x; exact ⟨_, e⟩
  | dK kvs => obtain ⟨_, _, _, _, o, _, _, e, _⟩ := x; exact ⟨_, e⟩
  | dT kvs => obtain ⟨_, _, _, _, o, _, _, e, _⟩ := x; exact ⟨_, e⟩
  | set S n => obtain ⟨o, _, _, _, e, _⟩ := x; exact ⟨_, e⟩
  | ins C dx fs => obtain ⟨_, _, _, e, _⟩ := x; exact ⟨_, e⟩
  | own y => exact x
  | xd fs => obtain ⟨_, ⟨_, _, _, e, _⟩, _⟩ := x; exact ⟨_, e⟩
  | rng lo hi => obtain ⟨_, _, _, e⟩ := x; exact ⟨_, e⟩
  | frz ob u => exact ⟨_, x.1⟩
  | tbl ps => exact ⟨_, show h.get? a = some { cls := .none, data := .fields ps } from x⟩
  | met f y => exact ⟨_, show h.get? a = some (PySem.W.methodObj (.ref f) (.ref y)) from x⟩
  | ext φ => exact x.2.1
theorem HOk.stays {P : Program} {w : World} {H : Hp} {h h' : Heap} (x : HOk P w H h) (k : ∀ b u v, H b = some v -> h.get? b = some u -> h'.get? b = some u) : HOk P w H h' := fun a o e => by
  refine (x a o e).stay (fun b u hb q => ?_) (fun _ q => q) fun _ _ q => q
  rcases hb with rfl | hb
  · exact k _ u _ e q
  · exact k b u _ hb q
def CXr (P : Program) (w : World) : CXT := fun outer H s E e s' => ∃ (ea C : Addr) (a0 : Value) (B : Heap) (H' : Hp), e = .ref ea /\ s'.os = s.os /\ AllBare s'.gens /\ Un (frs outer) [] H H' s.heap s'.heap /\ HOk P w H' s'.heap /\
  Heap.FlyingW B outer ea (.ref C) a0 s'.heap /\ (∀ b o, s'.heap.get? b = some o -> ((∃ q, s.heap.get? b = some q) \/ ∃ q, H' b = some q) -> b ∉ frs outer -> B.get? b = some o) /\ E (.ref C) none H'
section
variable {P : Program} {w : World} {K : PySem.W.Frag} {mg : Str -> Option Value} {base : Heap} {N : List Str} {qual : Str} {scope : Scope} {f : Addr} {cd : Value} {A : Around} {outer : List Env} {s0 : Shared} {H0 : Hp} {E : XK}
theorem frames_nf {h : Heap} {B : Heap} {l : List Env} (F : h.FunFrames B l) {b : Addr} {o : Obj} (hb : b ∈ frs l) (e : h.get? b = some o) : ∀ vs, o.data ≠ .fields vs := by
  obtain ⟨_, o', h1, h2⟩ := F.mem hb
  rw [e] at h1
  cases h1
  exact h2
theorem leave_raise {pins : List (Addr × Obj)} {σ : St} {H : Hp} {s2 : Shared} {h' : Heap} {e C : Addr} {vs : List Value} {E2 : Value -> Shared -> Prop} (I : Inv (cxOf (CXr P w) P w K mg base N qual scope f cd A outer s0 H0 E) pins σ H s2)
    (hx : Heap.MadeExcOf s2.heap h' e (.ref C) vs) (q : E (.ref C) none H) :
    wpAny (model P w) (A.deeper (envOfC qual scope s0.heap.objs.size f cd)) (leaving (envOfC qual scope s0.heap.objs.size f cd) (.ref e)) (fun _ s'' => CXr P w outer H0 s0 E (.ref e) s'') E2 { s2 with heap := h' } := by
  have hin : ∀ env ∈ (envOfC qual scope s0.heap.objs.size f cd :: outer), ∀ b, env.frame = some b -> b ∈ frs (envOfC qual scope s0.heap.objs.size f cd :: outer) := fun env he b hb => List.mem_filterMap.mpr ⟨env, he, hb⟩
  have St : s2.heap.FunFrames base (envOfC qual scope s0.heap.objs.size f cd :: outer) := I.stack
  have hfr : (A.deeper (envOfC qual scope s0.heap.objs.size f cd)).frames = some (envOfC qual scope s0.heap.objs.size f cd :: outer) := I.ok.frames
  refine wpAny_leaves_madeW (s := { s2 with heap := h' }) (base := PySem.W.hideAll s2.heap (frs (envOfC qual scope s0.heap.objs.size f cd :: outer))) hfr rfl (fun b o z => PySem.W.of_hideAll _ z) (PySem.W.funFrames_hide St hin) hx fun h'' t x1 _ _ x4 => ?_
  have up : s2.heap.UpToSlots h'' := (Heap.UpToSlots.of_keeps hx.keeps).trans x4
  have fsub : ∀ b, b ∈ frs (envOfC qual scope s0.heap.objs.size f cd :: outer) -> b = s0.heap.objs.size \/ b ∈ frs outer := fun b hb => by
    have e : frs (envOfC qual scope s0.heap.objs.size f cd :: outer) = s0.heap.objs.size :: frs outer := rfl
    rw [e] at hb
    exact List.mem_cons.mp hb
  have kept : ∀ b o, b ≠ s0.heap.objs.size -> b ∉ frs outer -> s2.heap.get? b = some o -> (PySem.W.hideAll s2.heap (frs (envOfC qual scope s0.heap.objs.size f cd :: outer))).get? b = some o := fun b o n1 n2 z =>
    PySem.W.hideAll_get _ z fun hm => (fsub b hm).elim n1 n2
  have slot : ∀ b o, b ∈ frs outer -> s2.heap.get? b = some o -> ∃ sl, h''.get? b = some { o with slots := sl } := fun b o hb z => up b o z (frames_nf I.funs hb z)
  have B : Un (frs outer) [] H0 H s0.heap s2.heap := I.base
  have ne0 : ∀ b o, s0.heap.get? b = some o -> b ≠ s0.heap.objs.size := fun b o z => Nat.ne_of_lt (Heap.lt_size z)
  have freeL : H s0.heap.objs.size = none := I.free
  have trk : ∀ b u v, H b = some v -> s2.heap.get? b = some u -> (PySem.W.hideAll s2.heap (frs (envOfC qual scope s0.heap.objs.size f cd :: outer))).get? b = some u := fun b u v hv z => by
    refine PySem.W.hideAll_get _ z fun hm => ?_
    have := I.stkFree b hm
    rw [hv] at this
    cases this
  refine ⟨e, C, _, _, H, rfl, I.os, I.bare, ⟨fun b o z n hb hx' => ?_, fun b o z n hb hx' => ?_, B.free, fun b o z hx' => ?_, B.tups, B.frzs, B.tbls⟩, ?_, x1, fun b o z hh hb => ?_, q⟩
  · exact x1.1 b o (kept b o (ne0 b o z) hb (B.keep b o z n hb hx'))
  · obtain ⟨sl, z2⟩ := B.slot b o z n hb hx'
    obtain ⟨sl', z3⟩ := slot b _ hb z2
    exact ⟨sl', z3⟩
  · obtain ⟨o', z2⟩ := B.there b o z hx'
    by_cases hb : b ∈ frs outer
    · obtain ⟨sl', z3⟩ := slot b _ hb z2
      exact ⟨_, z3⟩
    · exact ⟨_, x1.1 b o' (kept b o' (ne0 b o z) hb z2)⟩
  · exact I.hok.stays fun b u v hv z => x1.1 b u (trk b u v hv z)
  · have : ∃ u, (PySem.W.hideAll s2.heap (frs (envOfC qual scope s0.heap.objs.size f cd :: outer))).get? b = some u := by
      rcases hh with ⟨q1, z1⟩ | ⟨q1, z1⟩
      · obtain ⟨o', z2⟩ := B.there b q1 z1 (by simp)
        exact ⟨o', kept b o' (ne0 b q1 z1) hb z2⟩
      · obtain ⟨u, z2⟩ := (I.hok b q1 z1).there
        exact ⟨u, trk b u _ z1 z2⟩
    obtain ⟨u, hu⟩ := this
    have := x1.1 b u hu
    rw [z] at this
    cases this
    exact hu
end
abbrev bmVE : List Value := [.type "ValueError", .type "Exception", .type "BaseException", .type "object"]
structure ExcAt (h : Heap) (C : Addr) (bm : List Value) : Prop where
  ex : ∃ (N : Addr) (nm qn : Str) (bs : List Value) (hd : Bool) (sn : List Str) (sub : List Value) (ab : Bool) (col : Option Bool) (dd : Option Addr) (k0 k1 k2 k3 k5 : Option Value) (mN : Str -> Option Value),
    h.get? C = some (excClassObj nm qn C N bs bm hd sn sub ab col dd k0 k1 k2 k3 k5 "ValueError.__new__") /\ h.Ns N mN /\ mN "__init__" = none /\ OwnTail h bmVE bm
def excB (K : PySem.W.Frag) (C : Addr) (bm : List Value) : Bool := PySem.W.excIn K C bmVE "ValueError.__new__" && (match K.lookup C with | some o => (match o.data with | .cls cd => cd.mro == .ref C :: bm | _ => false) | _ => false)
theorem excAt_of {K : PySem.W.Frag} {h : Heap} {C : Addr} {bm : List Value} (X : K.In h) (z : excB K C bm = true) : ExcAt h C bm := by
  unfold excB at z
  rw [Bool.and_eq_true] at z
  obtain ⟨z1, z2⟩ := z
  unfold PySem.W.excIn at z1
  split at z1
  next dd cd sl lk =>
    rw [lk] at z2
    split at z1
    next C2 bm2 k0 k1 k2 k3 n k5 hm hs =>
      simp only [Bool.and_eq_true, beq_iff_eq, Bool.not_eq_true'] at z1
      obtain ⟨⟨⟨⟨⟨y1, y2⟩, y3⟩, y4⟩, y5⟩, y6⟩ := z1
      subst y1 y2
      have z3 : (cd.mro == .ref C2 :: bm) = true := z2
      rw [beq_iff_eq, hm] at z3
      cases z3
      cases cd with
      | mk nm bs mro ns qn hd sn sub ab col del =>
        have e1 : mro = .ref C2 :: bm := hm
        have e2 : del = false := y3
        subst e1 e2
        have e3 : sl = #[k0, k1, k2, k3, some (.builtin "ValueError.__new__"), k5] := by
          cases sl with
          | mk l => exact congrArg Array.mk hs
        subst e3
        exact ⟨ns, nm, qn, bs, hd, sn, sub, ab, col, dd, k0, k1, k2, k3, k5, _, X _ _ lk, .of_isNs (PySem.W.isNs_of_in X y5), PySem.W.nsMap_none_of_in X y5 y6, PySem.W.tail_of_in X y4⟩
    next => cases z1
  next => cases z1
section
variable {P : Program} {w : World} {K : PySem.W.Frag} {mg : Str -> Option Value} {base : Heap} {N : List Str} {qual : Str} {scope : Scope} {f : Addr} {cd : Value} {A : Around} {outer : List Env} {s0 : Shared} {H0 : Hp} {E : XK}
theorem bmVE_base : bmVE.contains (.type "BaseException") = true := by decide +kernel
theorem bmVE_value : bmVE.contains (.type "ValueError") = true := by decide +kernel
def tRaise (C : Addr) (E : XK) (ta : TA) : TS := fun _ σ H => ta σ H fun vs H1 => vs.length <= 100 /\ E (.ref C) none H1
end
end L2
namespace L2
open PySem PySem.Spec PyProof.Rows PySem.W
def excKB (K : Frag) (C : Addr) : Bool :=
  findIn K (.ref C) "__getattribute__" == some (some (.builtin "BaseException.__getattribute__")) && findIn K (.ref C) "__getattr__" == some none && findIn K (.ref C) "__class__" == some (some (.builtin "object.__class__"))
    && subIn K (.ref C) (.type "BaseException") == some true && subIn K (.ref C) (.type "object") == some true && (clsIn K C).isSome
structure ExcK (K : Frag) (C : Addr) : Prop where
  g1 : findIn K (.ref C) "__getattribute__" = some (some (.builtin "BaseException.__getattribute__"))
  g2 : findIn K (.ref C) "__getattr__" = some none
  g3 : findIn K (.ref C) "__class__" = some (some (.builtin "object.__class__"))
  g4 : subIn K (.ref C) (.type "BaseException") = some true
  g5 : subIn K (.ref C) (.type "object") = some true
  g6 : (clsIn K C).isSome = true
theorem excK_of {K : Frag} {C : Addr} (h : excKB K C = true) : ExcK K C := by
  unfold excKB at h
  simp only [Bool.and_eq_true, beq_iff_eq] at h
  obtain ⟨⟨⟨⟨⟨h1, h2⟩, h3⟩, h4⟩, h5⟩, h6⟩ := h
  exact ⟨h1, h2, h3, h4, h5, h6⟩
section
variable {K : Frag} {prog : Program} {w : World} {A : Around} {E : Value -> Shared -> Prop} {h : Heap} {g : Array GenState} {d : Drawn} {t : Nat} {os : OsState} {a C : Addr} {o : Obj}
theorem xc_get {R : Result -> Shared -> Prop} (Z : ExcK K C) (X : K.In h) (hx : h.get? a = some o) (hc : o.cls = .ref C) (hq : R (.ok (.ret (.ref C))) ⟨h, g, d, t, os⟩) :
    codeAny (model prog w) A (.call (.builtin "getset_descriptor.__get__") ⟨[.builtin "object.__class__", .ref a, .ref C], []⟩) R ⟨h, g, d, t, os⟩ := by
  have hT5 : (⟨h, g, d, t, os⟩ : Shared).TypeIs (.builtin "object.__class__") "getset_descriptor" := F.typeOf_object_class
  have hs : Looks (model prog w) h (isSubtype (.ref C) (.type (".".intercalate ("object.__class__".cutAt '.').dropLast))) true := by rw [F.owner_object_class]; exact looks_subIn X Z.g5
  refine codeAny_call_builtin F.slot_gs_get.plain F.entry_gs_get (F.slot_gs_get.check _ _ _ _ _ _ _ _ hT5 (F.args_gs_get _ _ _) ?_)
  repeat (any_goals (first | assumption | (with_reducible refine wpAny_loadPart_at hx ?_; rw [hc]) | with_reducible refine Looks.at hs ?_ | wp_step))
  refine ⟨Code.quiet_builtin _ (by decide +kernel), codeAny_builtin F.entry_object_class ?_⟩
  repeat (any_goals (first | assumption | (with_reducible refine wpAny_loadPart_at hx ?_; rw [hc]) | wp_step))
theorem xc_entry {tk : Tok} {Q : Fin -> Shared -> Prop} (Z : ExcK K C) (X : K.In h) (hx : h.get? a = some o) (hc : o.cls = .ref C) (hq : Q (.done (.ret (.ref C))) ⟨h, g, d, t, os⟩) :
    wpAny (model prog w) A (Builtin.«object.__getattribute__» ⟨[.ref a, .str "__class__" tk], []⟩) Q E ⟨h, g, d, t, os⟩ := by
  have hT5 : (⟨h, g, d, t, os⟩ : Shared).TypeIs (.builtin "object.__class__") "getset_descriptor" := F.typeOf_object_class
  have f5 := F.typeOf_object_class
  have f6 := F.slot_gs_get.lookup
  have f7 := F.slot_gs_set.lookup
  have l3 : Looks (model prog w) h (typeLookup (.ref C) "__class__") _ := looks_findIn X Z.g3
  repeat (any_goals (first | assumption | (with_reducible refine wpAny_loadPart_at hx ?_; rw [hc]) | with_reducible refine Looks.at l3 ?_ | wp_step))
  refine xc_get Z X hx hc ?_
  repeat (any_goals (first | assumption | wp_step))
theorem xc_check {M : Model} {nameV : Value} {Q : Unit -> Shared -> Prop} (Z : ExcK K C) (X : K.In h) (hx : h.get? a = some o) (hc : o.cls = .ref C) (hq : Q () ⟨h, g, d, t, os⟩) : wpAny M A (checkBuiltinCall "BaseException.__getattribute__" ⟨[.ref a, nameV], []⟩) Q E ⟨h, g, d, t, os⟩ := by
  have hk : builtinKind "BaseException.__getattribute__" = some .slot := by decide +kernel
  have hsplit : splitId "BaseException.__getattribute__" = some ("BaseException", "__getattribute__") := by decide +kernel
  have ha := F.args_bexc_ga (.ref a) nameV
  have hs : Looks M h (isSubtype (.ref C) (.type "BaseException")) true := looks_subIn X Z.g4
  simp only [checkBuiltinCall, hk, hsplit]
  refine wpAny_bind ?_
  unfold isInstance
  repeat (first | (with_reducible refine wpAny_loadPart_at hx ?_; rw [hc]) | with_reducible refine Looks.at hs ?_ | wp_step)
  exact hq
theorem xc_call {tk : Tok} {R : Result -> Shared -> Prop} (Z : ExcK K C) (X : K.In h) (hx : h.get? a = some o) (hc : o.cls = .ref C) (hq : R (.ok (.ret (.ref C))) ⟨h, g, d, t, os⟩) :
    codeAny (model prog w) A (.call (.builtin "BaseException.__getattribute__") ⟨[.ref a, .str "__class__" tk], []⟩) R ⟨h, g, d, t, os⟩ :=
  codeAny_call_builtin F.attrBase_ValueError.ga.plain F.entry_bexc_ga (xc_check Z X hx hc (xc_entry Z X hx hc hq))
theorem xc_by {tk : Tok} {Q : Value -> Shared -> Prop} (Z : ExcK K C) (X : K.In h) (hx : h.get? a = some o) (hc : o.cls = .ref C) (hq : Q (.ref C) ⟨h, g, d, t, os⟩) :
    wpAny (model prog w) A (getAttrBy (.ref a) (.str "__class__" tk) false) Q E ⟨h, g, d, t, os⟩ := by
  have f3 := F.attrBase_ValueError.ga.bind (.ref a)
  have y0 : (false && onTheHeap (Value.builtin "BaseException.__getattribute__")) = false := rfl
  have y2 : (Value.builtin "BaseException.__getattribute__" == Value.builtin "object.__getattribute__") = false := by decide +kernel
  have y1 : (onTheHeap (Value.ref C) && Value.builtin "BaseException.__getattribute__" == Value.builtin "object.__getattribute__") = false := by rw [y2]; rfl
  have l1 : Looks (model prog w) h (typeLookup (.ref C) "__getattribute__") _ := looks_findIn X Z.g1
  have l2 : Looks (model prog w) h (typeLookup (.ref C) "__getattr__") _ := looks_findIn X Z.g2
  repeat (any_goals (first | assumption | (with_reducible refine wpAny_loadPart_at hx ?_; rw [hc]) | with_reducible refine Looks.at l1 ?_ | with_reducible refine Looks.at l2 ?_ | wp_step))
  refine xc_call Z X hx hc ?_
  repeat (any_goals (first | assumption | wp_step))
theorem xc_attr {Q : Option Value -> Shared -> Prop} (Z : ExcK K C) (X : K.In h) (hx : h.get? a = some o) (hc : o.cls = .ref C) (hq : Q (some (.ref C)) ⟨h, g, d, t + 1, os⟩) :
    wpAny (model prog w) A (getAttr? (.ref a) "__class__") Q E ⟨h, g, d, t, os⟩ := by
  unfold getAttr? getAttrBy?
  repeat (any_goals (first | assumption | with_reducible apply xc_by Z X hx hc | wp_step))
end
def ExcObj (a C : Addr) (h : Heap) : Prop := ∃ o, h.get? a = some o /\ o.cls = .ref C
theorem kitx_exc {K : Frag} {a C : Addr} (Z : ExcK K C) : KitX K (.ref a) (.ref C) (ExcObj a C) where
  ty := fun M h _ p => by
    obtain ⟨o, h1, h2⟩ := p
    exact h2 ▸ (Looks.ld h1).andThen .now
  it := fun M h X _ => by
    have z0 := Z.g6
    unfold clsIn at z0
    split at z0
    · rename_i ho
      intro A' Q' E' s' k q
      unfold isType loadHead
      exact wpAny_bind (wpAny_loadPart (k _ _ (X _ _ ho)) (wpAny_pure q))
    · cases z0
  ne := fun h tp dd its n sl X htp => by
    refine Bool.eq_false_iff.mpr fun q => ?_
    have e : Value.ref C = .ref tp := beq_iff_eq.mp q
    cases e
    have z0 := Z.g6
    unfold clsIn at z0
    split at z0
    · rename_i ho
      rw [X _ _ ho] at htp
      cases htp
    · cases z0
  ca := fun {prog w A E Q s} X p k => by
    obtain ⟨h, g, d, t, os⟩ := s
    obtain ⟨o, h1, h2⟩ := p
    exact xc_attr Z X h1 h2 k
section
variable {X : Cx}
end
end L2
namespace L2
open PySem PySem.Spec PyProof.Rows PySem.W
section
variable {X : Cx} {pins : List (Addr × Obj)} {σ : St} {H H' : Hp} {s s' : Shared}
theorem Inv.track {a : Addr} {o : HO} (I : Inv X pins σ H s) (hn : H a = none) (new : ObjOk X.prog X.w (upd H a o) s.heap a o) (hL : a ≠ X.env.locals) (hC : ∀ x c, X.env.cells.lookup x = some c -> c ≠ a) (hp : ∀ p ∈ X.pn ++ pins, p.1 ≠ a)
    (h0 : ∀ b u, X.s₀.heap.get? b = some u -> b ∉ X.ex -> b ≠ a) : Inv X pins σ (upd H a o) s := by
  have up : ∀ b v, H b = some v -> upd H a o b = some v := fun b v e => by rw [upd_ne (ne_of_none e hn)]; exact e
  refine ⟨I.ok, I.os, I.bare, ⟨I.base.keep, I.base.slot, fun b u e n hx => ?_, I.base.there, fun b xs e => up _ _ (I.base.tups b xs e), fun b u xs e => up _ _ (I.base.frzs b u xs e), fun b ps e => ?_⟩, I.loc, I.cell, ?_, fun x c e => ?_, fun p q => ?_, HOk.track I.hok hn new, I.len⟩
  · rw [upd_ne (h0 b u e hx)]
    exact I.base.free b u e n hx
  · obtain ⟨m, e'⟩ := I.base.tbls b ps e
    exact ⟨m, up _ _ e'⟩
  · rw [upd_ne (Ne.symm hL)]
    exact I.free
  · rw [upd_ne (hC x c e)]
    exact I.freeC x c e
  · obtain ⟨e, n, r⟩ := I.pin p q
    exact ⟨e, by rw [upd_ne (hp p q)]; exact n, r⟩
theorem unbind_ok {M : Model} {A : Around} {E : Value -> Shared -> Prop} {i : Nat} {x : Str} {pos : Pos} {Q : Unit -> Shared -> Prop} (I : Inv X pins σ H s) (hN : X.N.Nodup) (hi : X.N[i]? = some x) (hx : X.env.scope.names.lookup x = some .local)
    (h : ∀ s', Inv X pins (σ.set i none) H s' -> Q () s') : wpAny M A (do bindName X.env x .none; unbindBehindTheSuite X.env x pos) Q E s := by
  obtain ⟨m, hn, hl⟩ := id I.loc
  have kd : (X.env.scope.kind == .class || (X.env.scope.kind == .module && X.env.locals != X.env.globals)) = false := by rw [I.ok.kind]; rfl
  have hiσ : i < σ.length := by rw [I.len]; exact (List.getElem?_eq_some_iff.mp hi).1
  refine wpAny_nameGoes_keeps (env := X.env) hx hn kd fun h' v hn' hs => ?_
  obtain ⟨oL, _, _, hoL, _⟩ := id hn
  have away : ∀ b o, X.s₀.heap.get? b = some o -> b ≠ X.env.locals := fun b o e => Nat.ne_of_lt (Nat.lt_of_lt_of_le (Heap.lt_size e) I.ok.above)
  refine h _ ⟨I.ok, I.os, I.bare, ⟨fun b o e n hb hx => (hs.2 b (away b o e)).trans (I.base.keep b o e n hb hx), fun b o e n hb hx => ?_, I.base.free, fun b o e hx => ?_, I.base.tups, I.base.frzs, I.base.tbls⟩, ⟨_, hn', fun j y v' e1 e2 e3 => ?_⟩, fun y c e => ?_, I.free, I.freeC, fun p hp => ?_, I.hok.stays fun b u v hv z => (hs.2 b fun q => ?_).trans z, by simpa using I.len⟩
  · obtain ⟨sl, e1⟩ := I.base.slot b o e n hb hx
    exact ⟨sl, (hs.2 b (away b o e)).trans e1⟩
  · obtain ⟨o', e1⟩ := I.base.there b o e hx
    exact ⟨o', (hs.2 b (away b o e)).trans e1⟩
  · by_cases hj : j = i
    · subst hj
      rw [List.getElem?_set_self hiσ] at e2
      cases e2
    · rw [List.getElem?_set_ne (Ne.symm hj)] at e2
      obtain ⟨u', r', q⟩ := hl j y v' e1 e2 e3
      refine ⟨u', r', ?_⟩
      rcases q with ⟨k, e⟩ | ⟨k, c, e, z⟩
      · refine .inl ⟨k, ?_⟩
        have : y ≠ x := fun e => hj (nodup_ix hN e1 (e ▸ hi))
        simp [this, e]
      · exact .inr ⟨k, c, e, z.sameBut hs (I.cne y c e)⟩
  · obtain ⟨w', z⟩ := I.cell y c e
    exact ⟨w', z.sameBut hs (I.cne y c e)⟩
  · obtain ⟨e, n, ne, nf, d⟩ := I.pin p hp
    exact ⟨(hs.2 p.1 ne).trans e, n, ne, nf, d⟩
  · rw [q, I.free] at hv
    cases hv
theorem caught_inv {B h' : Heap} (I : Inv X pins σ H s) (os : s'.os = s.os) (bare : AllBare s'.gens) (un : Un (frs X.stack) [] H H' s.heap s'.heap) (hok : HOk X.prog X.w H' s'.heap) (fr : s'.heap.FunFrames B X.stack)
    (kB : ∀ b o, s'.heap.get? b = some o -> ((∃ q, s.heap.get? b = some q) \/ ∃ q, H' b = some q) -> b ∉ frs X.stack -> B.get? b = some o) (st : B.StaysIn h') (up : s'.heap.UpToSlots h') : Inv X pins σ H' { s' with heap := h' } := by
  have sl : ∀ b o, b ∈ frs X.stack -> s'.heap.get? b = some o -> ∃ sl, h'.get? b = some { o with slots := sl } := fun b o hb z => up b o z (frames_nf fr hb z)
  refine I.call' (ch := []) (s' := { s' with heap := h' }) os ⟨fun b o z n hb hx => ?_, fun b o z n hb hx => ?_, un.free, fun b o z hx => ?_, un.tups, un.frzs, un.tbls⟩ (hok.stays fun b u v hv z => ?_) bare (fun b z => absurd z (by simp))
  · exact st b o (kB b o (un.keep b o z n hb hx) (.inl ⟨o, z⟩) hb)
  · obtain ⟨s1, z2⟩ := un.slot b o z n hb hx
    obtain ⟨s2, z3⟩ := sl b _ hb z2
    exact ⟨s2, z3⟩
  · obtain ⟨o', z2⟩ := un.there b o z hx
    by_cases hb : b ∈ frs X.stack
    · obtain ⟨s2, z3⟩ := sl b _ hb z2
      exact ⟨_, z3⟩
    · exact ⟨_, st b o' (kB b o' z2 (.inl ⟨o, z⟩) hb)⟩
  · refine st b u (kB b u z (.inr ⟨v, hv⟩) fun hb => ?_)
    obtain ⟨_, o, z1, _⟩ := I.stack.mem hb
    have := un.free b o z1 (I.stkFree b hb) (by simp)
    rw [hv] at this
    cases this
end
def Cx.marked (X : Cx) (v : Value) : Cx := { X with A := X.A.mark (some v), calm := false, xe := fun _ _ => False }
section
variable {X : Cx} {pins : List (Addr × Obj)} {σ : St} {H H' : Hp} {s s' : Shared} {v : Value}
theorem Inv.mark (I : Inv X pins σ H s) : Inv (X.marked v) pins σ H s :=
  ⟨⟨I.ok.mod, I.ok.kind, I.ok.glob, I.ok.blt, I.ok.above, I.ok.inj, I.ok.has, I.ok.cab, fun z => (by cases z), I.ok.frames, I.ok.stk, I.ok.exf, I.ok.bs, I.ok.bsz, I.ok.noex, I.ok.exfs, I.ok.funs, I.ok.frf⟩, I.os, I.bare, I.base, I.loc, I.cell, I.free, I.freeC, I.pin, I.hok, I.len⟩
theorem Inv.unmark (I : Inv (X.marked v) pins σ H s) (hd : X.calm = true -> X.A.handled = none) : Inv X pins σ H s :=
  ⟨⟨I.ok.mod, I.ok.kind, I.ok.glob, I.ok.blt, I.ok.above, I.ok.inj, I.ok.has, I.ok.cab, hd, I.ok.frames, I.ok.stk, I.ok.exf, I.ok.bs, I.ok.bsz, I.ok.noex, I.ok.exfs, I.ok.funs, I.ok.frf⟩, I.os, I.bare, I.base, I.loc, I.cell, I.free, I.freeC, I.pin, I.hok, I.len⟩
end
theorem xc_matches {K : Frag} {M : Model} {A : Around} {E : Value -> Shared -> Prop} {h : Heap} {g : Array GenState} {d : Drawn} {t : Nat} {os : OsState} {e C W : Addr} {oe : Obj} {bmW : List Value} {Q : Bool -> Shared -> Prop} (X : K.In h) (hW : excB K W bmW = true) (sb : subIn K (.ref C) (.ref W) = some true)
    (he : h.get? e = some oe) (hcls : oe.cls = .ref C) (hq : Q true ⟨h, g, d, t, os⟩) : wpAny M A (excMatches (.ref e) (.ref W)) Q E ⟨h, g, d, t, os⟩ := by
  obtain ⟨N, nm, qn, bs, hd, sn, sub, ab, col, dd, k0, k1, k2, k3, k5, mN, hC, e2, e3, e4⟩ := (excAt_of X hW).ex
  have c1 : (Value.ref W :: bmW).contains (.type "BaseException") = true := by rw [List.contains_cons, e4.hasType bmVE_base, Bool.or_true]
  have l1 : Looks M h (isSubtype (.ref C) (.ref W)) true := looks_subIn X sb
  have f := tc_notTuple
  unfold excMatches
  repeat (first | (with_reducible refine wpAny_loadPart_at he ?_; rw [hcls]) | with_reducible refine wpAny_loadPart_at hC ?_ | with_reducible refine Looks.at l1 ?_ | (with_reducible refine wpAny_isSubtype_exc hC ?_; rw [c1]) | wp_step)
  exact hq
end L2
namespace L2
open PySem PySem.Spec PyProof.Rows
open PySem.AutoSeq1 (wpAny_loadPart')
section
variable {prog : Program} {w : World} {A : Around} {E : Value -> Shared -> Prop} {s : Shared}
end
section
variable {X : Cx}
theorem not_modules {pins : List (Addr × Obj)} {σ : St} {H : Hp} {s : Shared} (I : Inv X pins σ H s) : (s.heap.objs.size == sysModules) = false := by
  have h1 : mainGlobals < s.heap.objs.size := by
    obtain ⟨o, _, _, e, _⟩ := I.mod.glob
    exact Heap.lt_size (I.bk _ _ e)
  refine beq_eq_false_iff_ne.mpr fun z => ?_
  have h2 : sysModules <= mainGlobals := by decide
  rw [z] at h1
  exact absurd (Nat.lt_of_le_of_lt h2 h1) (Nat.lt_irrefl _)
theorem pe_dict0 {pos : Pos} : PE X (.Dict [] [] pos) (fun _ H Q => ∀ p, H p = none -> Q (.ref p) (upd H p (.dK []))) := by
  intro pins s σ H Q I h
  refine wpAny_Dict_empty ⟨.ref s.heap.objs.size, upd H s.heap.objs.size (.dK []), I.laid (t' := s.toks) (fun b o e => Heap.get?_push_of_some _ e) (Nat.le_refl _) ?_, rfl, h _ (I.hok.fresh (Nat.le_refl _))⟩
  exact ⟨Nat.zero_le _, not_modules I, [], .nil, Heap.DictOf.new s.heap⟩
end
theorem pass_on {P : Program} {w : World} {K : PySem.W.Frag} {mg : Str -> Option Value} {base : Heap} {N : List Str} {qual : Str} {scope : Scope} {f : Addr} {cd : Value} {A : Around} {outer : List Env} {s0 : Shared} {H0 : Hp} {E : XK} :
    Passes (CXr P w) (cxOf (CXr P w) P w K mg base N qual scope f cd A outer s0 H0 E) E := by
  intro pins σ H s e s' I hx
  obtain ⟨ea, C, a0, B, H', rfl, os, bare, un, hok, fly, kB, q⟩ := hx
  have hfr : (A.deeper (envOfC qual scope s0.heap.objs.size f cd)).frames = some (envOfC qual scope s0.heap.objs.size f cd :: outer) := I.ok.frames
  show wpAny (model P w) (A.deeper (envOfC qual scope s0.heap.objs.size f cd)) (leaving (envOfC qual scope s0.heap.objs.size f cd) (.ref ea)) (fun _ s'' => CXr P w outer H0 s0 E (.ref ea) s'') _ s'
  have fly0 : Heap.FlyingW B (envOfC qual scope s0.heap.objs.size f cd :: outer) ea (.ref C) a0 s'.heap := fly
  refine wpAny_leaves_onW hfr rfl fly0 fun h' fly' up => ?_
  have eS : frs (envOfC qual scope s0.heap.objs.size f cd :: outer) = s0.heap.objs.size :: frs outer := rfl
  have fsub : ∀ b, b ∉ frs outer -> b ≠ s0.heap.objs.size -> b ∉ frs (envOfC qual scope s0.heap.objs.size f cd :: outer) := fun b h1 h2 hb => by
    rw [eS] at hb
    exact (List.mem_cons.mp hb).elim h2 h1
  have fin : ∀ b, b ∈ frs outer -> b ∈ frs (envOfC qual scope s0.heap.objs.size f cd :: outer) := fun b hb => by rw [eS]; exact List.mem_cons_of_mem _ hb
  have ne0 : ∀ b o, s0.heap.get? b = some o -> b ≠ s0.heap.objs.size := fun b o z => Nat.ne_of_lt (Heap.lt_size z)
  have BS : Un (frs outer) [] H0 H s0.heap s.heap := I.base
  have un' : Un (frs (envOfC qual scope s0.heap.objs.size f cd :: outer)) [] H H' s.heap s'.heap := un
  have sl : ∀ b o, b ∈ frs outer -> s'.heap.get? b = some o -> ∃ sl, h'.get? b = some { o with slots := sl } := fun b o hb z => up b o z (frames_nf fly0.2.2.1 (fin b hb) z)
  have kB' : ∀ b o, s'.heap.get? b = some o -> ((∃ q, s.heap.get? b = some q) \/ ∃ q, H' b = some q) -> b ∉ frs (envOfC qual scope s0.heap.objs.size f cd :: outer) -> B.get? b = some o := kB
  have trf : ∀ b, b ∈ frs (envOfC qual scope s0.heap.objs.size f cd :: outer) -> H' b = none := fun b hb => by
    obtain ⟨_, o, z1, _⟩ := (show s.heap.FunFrames base (envOfC qual scope s0.heap.objs.size f cd :: outer) from I.stack).mem hb
    exact un'.free b o z1 (I.stkFree b hb) (by simp)
  refine ⟨ea, C, a0, B, H', rfl, os.trans I.os, bare, ⟨fun b o z n hb hx => ?_, fun b o z n hb hx => ?_, fun b o z n hx => ?_, fun b o z hx => ?_, fun b xs z => un'.tups b xs (BS.tups b xs z), fun b o u z => un'.frzs b o u (BS.frzs b o u z), fun b ps z => ?_⟩, ?_, fly', fun b o z hh hb => ?_, q⟩
  · have z1 := BS.keep b o z n hb hx
    have z2 := un'.keep b o z1 (BS.free b o z n hx) (fsub b hb (ne0 b o z)) (by simp)
    exact fly'.1 b o (kB' b o z2 (.inl ⟨o, z1⟩) (fsub b hb (ne0 b o z)))
  · obtain ⟨s1, z1⟩ := BS.slot b o z n hb hx
    obtain ⟨s2, z2⟩ := un'.slot b _ z1 (BS.free b o z n hx) (fin b hb) (by simp)
    obtain ⟨s3, z3⟩ := sl b _ hb z2
    exact ⟨s3, z3⟩
  · obtain ⟨o', z1⟩ := BS.there b o z hx
    exact un'.free b o' z1 (BS.free b o z n hx) (by simp)
  · obtain ⟨o1, z1⟩ := BS.there b o z hx
    obtain ⟨o2, z2⟩ := un'.there b o1 z1 (by simp)
    by_cases hb : b ∈ frs outer
    · obtain ⟨s3, z3⟩ := sl b _ hb z2
      exact ⟨_, z3⟩
    · exact ⟨_, fly'.1 b o2 (kB' b o2 z2 (.inl ⟨o1, z1⟩) (fsub b hb (ne0 b o z)))⟩
  · obtain ⟨m1, z1⟩ := BS.tbls b ps z
    obtain ⟨m2, z2⟩ := un'.tbls b _ z1
    exact ⟨m1 ++ m2, by rw [z2, Array.append_assoc]⟩
  · refine hok.stays fun b u v hv z => fly'.1 b u (kB' b u z (.inr ⟨v, hv⟩) fun hb => ?_)
    have := trf b hb
    rw [hv] at this
    cases this
  · have ex : ∃ u, s'.heap.get? b = some u /\ B.get? b = some u := by
      rcases hh with ⟨q1, z1⟩ | ⟨q1, z1⟩
      · obtain ⟨o1, z2⟩ := BS.there b q1 z1 (by simp)
        obtain ⟨o2, z3⟩ := un'.there b o1 z2 (by simp)
        exact ⟨o2, z3, kB' b o2 z3 (.inl ⟨o1, z2⟩) (fsub b hb (ne0 b q1 z1))⟩
      · obtain ⟨u, z2⟩ := (hok b q1 z1).there
        refine ⟨u, z2, kB' b u z2 (.inr ⟨q1, z1⟩) fun hm => ?_⟩
        have := trf b hm
        rw [z1] at this
        cases this
    obtain ⟨u, _, hu⟩ := ex
    have := fly'.1 b u hu
    rw [z] at this
    cases this
    exact hu
section
variable {X : Cx}
end
structure RoomH (k : Nat) (A : Around) : Prop where
  dp : A.depth + 3 * k + 5 < recursionLimit
  un : A.units + 16 * k + 200 < cLine
theorem Room.marked {k : Nat} {A : Around} {v : Value} (r : Room k A) : RoomH k (A.mark (some v)) := ⟨r.dp, r.un⟩
theorem RoomH.deeper {k : Nat} {A : Around} (r : RoomH (k + 1) A) (env : Env) : RoomH k (A.deeper env) :=
  ⟨by have := r.dp; show A.depth + 1 + 3 * k + 5 < _; omega, by have := r.un; show A.units + 3 + 16 * k + 200 < _; omega⟩
def cxH (P : Program) (w : World) (K : PySem.W.Frag) (mg : Str -> Option Value) (base : Heap) (N : List Str) (qual : Str) (scope : Scope) (f : Addr) (cd : Value) (A : Around) (outer : List Env) (s : Shared) (H : Hp) (E : XK) : Cx :=
  { (cxOf CX0 P w K mg base N qual scope f cd A outer s H E).nox with calm := false }
structure FnOkH (P : Program) (w : World) (K : PySem.W.Frag) (mg : Str -> Option Value) (base : Heap) (k : Nat) (f : Addr) (fd : FuncData) (ps : List Str) (sp : Sp) : Prop where
  len : ∀ vs H Q E, sp vs H Q E -> vs.length = ps.length
  run : ∀ (A : Around) (outer : List Env) (s : Shared) (H : Hp) (args : Args) (us : List Value) (vs : List V) (Q : VK) (E : XK), RoomH k A -> Env0 P w K mg base A outer s H -> BindsTo s fd args (ps.zip us) -> Vals vs us -> sp vs H Q E ->
    codeAny (model P w) A (.call (.ref f) args) (CR CX0 outer P w H s Q E) s
theorem Inv.toH {P : Program} {w : World} {K : PySem.W.Frag} {mg : Str -> Option Value} {base : Heap} {N : List Str} {qual : Str} {scope : Scope} {f : Addr} {cd : Value} {A A0 : Around} {outer : List Env} {s s1 : Shared} {H H' : Hp} {E : XK} {pins : List (Addr × Obj)} {σ : St}
    (fr : (A.deeper (envOfC qual scope s.heap.objs.size f cd)).frames = some (envOfC qual scope s.heap.objs.size f cd :: outer)) (I : Inv (cxOf CX0 P w K mg base N qual scope f cd A0 outer s H E) pins σ H' s1) : Inv (cxH P w K mg base N qual scope f cd A outer s H E) pins σ H' s1 :=
  ⟨⟨I.ok.mod, I.ok.kind, I.ok.glob, I.ok.blt, I.ok.above, I.ok.inj, I.ok.has, I.ok.cab, fun z => (by cases z), fr, I.ok.stk, I.ok.exf, I.ok.bs, I.ok.bsz, I.ok.noex, I.ok.exfs, I.ok.funs, I.ok.frf⟩, I.os, I.bare, I.base, I.loc, I.cell, I.free, I.freeC, I.pin, I.hok, I.len⟩
theorem fn_ofH {P : Program} {w : World} {K : PySem.W.Frag} {mg : Str -> Option Value} {base : Heap} {k : Nat} {f : Addr} {name qual : Str} {params : Arguments} {body : List Stmt} {scope : Scope} {dV kV doc pm cdv ct oc : Value} {an od : Option Addr}
    {osl : Array (Option Value)} {N ps : List Str} {sp : Sp} (lk : K.lookup f = some ⟨oc, od, .func (PySem.W.fnOf name qual params body scope dV kV doc pm an cdv ct), osl⟩) (hcd : PySem.W.codeIn K cdv qual = true) (S : FnScope N ps scope)
    (len : ∀ vs H Q E, sp vs H Q E -> vs.length = ps.length)
    (hbody : ∀ (A : Around) (outer : List Env) (s : Shared) (H : Hp) (vs : List V) (Q : VK) (E : XK), RoomH k (A.deeper (envOfC qual scope s.heap.objs.size f cdv)) -> sp vs H Q E ->
      ∃ t, PSs (cxH P w K mg base N qual scope f cdv A outer s H E) body t /\ t { nx := fun _ H' => Q .non H', rt := Q } (start N vs) H) :
    FnOkH P w K mg base (k + 1) f (PySem.W.fnOf name qual params body scope dV kV doc pm an cdv ct) ps sp := by
  refine ⟨len, fun A outer s H args us vs Q E hr e0 hb r hsp => ?_⟩
  have hl := len _ _ _ _ hsp
  have KX : K.In s.heap := e0.mod.kin.keeps fun b o e => (e0.bs b o e).1
  have lim : s.heap.NoLimit := e0.mod.nolimit.keeps fun b o e => (e0.bs b o e).1
  have hkind : ∀ y ∈ ps.zip us, scope.names.lookup y.1 = some .local \/ (scope.names.lookup y.1 = some .cell /\ ((cellsFrom (s.heap.objs.size + 1) scope.names []).lookup y.1).isSome = true) := fun ⟨n, v⟩ hy => by
    rcases S.par n (List.of_mem_zip hy).1 with q | q
    · exact .inl q
    · exact .inr ⟨q, PySem.W.cellsFrom_some _ _ _ (.inl q)⟩
  refine codeAny_call_function (show A.depth < recursionLimit by have := hr.dp; omega) (KX _ _ lk) rfl S.co S.gen rfl (PySem.W.codeRec_of KX hcd) (hb _ _ _ _ ?_)
  refine wpAny_newFunctionEnv_cells S.kind hkind fun env he s1 x => ?_
  subst he
  refine ⟨lim.keeps x.toInCall.keep, codeAny_func ?_⟩
  obtain ⟨t, ht, hq⟩ := hbody A outer s H vs Q E (hr.deeper _) hsp
  have e1 : Env0 P w K mg base { A with handled := none } outer s H := ⟨e0.frames, e0.mod, e0.bs, e0.bsz, e0.funs, e0.frf, e0.hok, e0.bare⟩
  have I0 : Inv (cxOf CX0 P w K mg base N qual scope f cdv { A with handled := none } outer s H E) [] (start N vs) H s1 := inv_start S rfl e1 hl r x
  have I : Inv (cxH P w K mg base N qual scope f cdv A outer s H E) [] (start N vs) H s1 := Inv.toH (Around.frames_deeper e0.frames) I0
  refine wpAny_mono (ht [] s1 (start N vs) H _ I hq) (fun fl s' hs => ?_) fun e s' hs => hs.elim
  have fin : ∀ {σ' : St} {H' : Hp} {v : V} {u : Value}, Inv (cxH P w K mg base N qual scope f cdv A outer s H E) [] σ' H' s' -> RelV v u -> Q v H' -> CE outer P w H s Q u s' :=
    fun {σ' H' v u} J rv q => ⟨v, H', J.os, J.bare, J.base, J.hok, rv, q⟩
  cases fl with
  | ret u =>
    obtain ⟨v, σ', H', J, rv, q⟩ := hs
    exact fin J rv q
  | next =>
    obtain ⟨σ', H', J, q⟩ := hs
    exact fin (v := V.non) (u := Value.none) J rfl q
  | brk =>
    obtain ⟨_, _, _, q⟩ := hs
    exact False.elim q
  | cont =>
    obtain ⟨_, _, _, q⟩ := hs
    exact False.elim q
structure DefH (P : Program) (w : World) (K : PySem.W.Frag) (mg : Str -> Option Value) (base : Heap) (k : Nat) (x : Str) (ps : List Str) (sp : Sp) : Prop where
  ex : ∃ f fd, FnOkH P w K mg base k f fd ps sp /\ Binds K fd ps [] /\ mg x = some (.ref f) /\ PySem.W.keepIn K (.ref f) = true
theorem Src.defH {P : Program} {w : World} {K : PySem.W.Frag} {mg : Str -> Option Value} {base : Heap} {k : Nat} {x : Str} {st : Stmt} {N ps : List Str} {sp : Sp} (S : Src K mg x st ps) (sc : FnScope N ps (defScope st)) (len : ∀ vs H Q E, sp vs H Q E -> vs.length = ps.length)
    (hbody : ∀ (f : Addr) (cdv : Value) (A : Around) (outer : List Env) (s : Shared) (H : Hp) (vs : List V) (Q : VK) (E : XK), RoomH k (A.deeper (envOfC x (defScope st) s.heap.objs.size f cdv)) -> sp vs H Q E ->
      ∃ t, PSs (cxH P w K mg base N x (defScope st) f cdv A outer s H E) (defBody st) t /\ t { nx := fun _ H' => Q .non H', rt := Q } (start N vs) H) : DefH P w K mg base (k + 1) x ps sp := by
  obtain ⟨f, fd, F, b, m⟩ := S.ex
  obtain ⟨oc, od, kV, doc, pm, an, cdv, ct, osl, e, lk, hcd⟩ := F.ex
  subst e
  exact ⟨f, _, fn_ofH lk hcd sc len (hbody f cdv), b, m, F.kp⟩
theorem pe_defH {X : Cx} {k : Nat} {x : Str} {ps : List Str} {sp : Sp} {e : Expr} {es : List Expr} {t : TA} {p pos : Pos} (D : DefH X.prog X.w X.K X.mg X.base k x ps sp) (hr : RoomH k X.A) (hg : Gl X x) (ha : PA X (e :: es) t)
    (hdb : (x == ("__debug__" : Str)) = false := by decide) (he : starEach (e :: es) X.env = (false, eval e X.env) :: starEach es X.env := by rfl) (hpl : (backTo pos (starEach es X.env)).any (·.1) = false := by rfl) :
    PE X (.Call (.Name x p) (e :: es) [] pos) (tCall sp [] E0 t) := by
  obtain ⟨f, fd, F, bd, m, kp⟩ := D.ex
  intro pins s σ H Q I h
  refine wpAny_Call_Name_kw (ld_glob I hg m ?_ hdb)
  refine PySem.W.callWith_K (h₀ := X.base) I.ok.mod.kin kp (thn (ha pos pins s σ H _ I h) fun us s1 ⟨vs, H1, I1, r, q⟩ => ⟨I1.kIn, ?_⟩) he hpl
  have r2 : Vals (vs ++ []) (us ++ []) := r.append .nil
  have hl : (us ++ []).length = ps.length := by rw [<- r2.length]; exact F.len _ _ _ _ q
  refine wpAny_call (codeAny_mono (F.run X.A X.stack s1 H1 ⟨us, []⟩ (us ++ []) (vs ++ []) Q E0 hr I1.env0 (bd s1 us I1.kIn hl) r2 q) fun r s' hq => ?_)
  cases r with
  | error ev => exact False.elim hq
  | ok fl =>
    cases fl with
    | ret u => exact I1.after hq
    | next => exact False.elim hq
    | brk => exact False.elim hq
    | cont => exact False.elim hq
section
variable {X : Cx}
end
end L2
namespace L2
open PySem PySem.Spec PyProof.Rows PySem.W
abbrev TSX := Ends -> (St -> XK) -> St -> Hp -> Prop
def XP (X : Cx) (pins : List (Addr × Obj)) (DX : St -> XK) (e : Value) (s' : Shared) : Prop := ∃ σ H s, Inv X pins σ H s /\ CXr X.prog X.w X.stack H s (DX σ) e s'
section
variable {X : Cx}
def xCall (sp : Sp) (ta : TA) : TSX := fun D DX σ H => ta σ H fun vs H1 => sp (vs ++ []) H1 (fun _ H2 => D.nx σ H2) (DX σ)
end
end L2
namespace L2
open PySem PySem.Spec PyProof.Rows
section
variable {X : Cx}
def rNilT (K : PySem.W.Frag) : R2 := fun x y H Q => ∃ a b xs, x = .ref a /\ y = .ref b /\ SqT K H a xs /\ SqT K H b [] /\ Q (.bl (decide (xs = []))) H
theorem op_eqNilT (hu : X.A.units + 66 < cLine) : OpR X (compareOp .Eq) (rNilT X.K) := by
  intro pins s σ H x y v u Q I rx ry h
  obtain ⟨a, b, xs, rfl, rfl, ha, hb, q⟩ := h
  cases (show v = Value.ref a from rx)
  cases (show u = Value.ref b from ry)
  obtain ⟨its, r1, t1, _⟩ := I.tuple ha
  obtain ⟨its2, r2, t2, _⟩ := I.tuple hb
  have z2 : its2 = [] := Vals.zero r2
  subst z2
  refine SeqAt.eq_tupleAt (e := fun _ => true) t1 t2 (by omega) (fun j h1 h2 => absurd h2 (by simp)) ?_
  have e : ((List.range (min its.toArray.size ([] : List Value).toArray.size)).all (fun _ => true) && its.toArray.size == ([] : List Value).toArray.size) = decide (xs = []) := by
    cases r1 with
    | nil => rfl
    | cons _ _ => simp
  rw [e]
  exact ⟨.bl (decide (xs = [])), H, I, rfl, q⟩
end
section
variable {κ : Type} [DecidableEq κ]
def valV (kvs : List (κ × V)) (k : κ) : Option V := (kvs.find? fun kv => decide (kv.1 = k)).map (·.2)
def putK (kvs : List (κ × V)) (k : κ) (v : V) : List (κ × V) :=
  if (kvs.any fun kv => decide (kv.1 = k)) = true then kvs.map (fun kv => if kv.1 = k then (kv.1, v) else kv) else kvs ++ [(k, v)]
theorem valV_pos {p : κ × V} {r : List (κ × V)} {k : κ} (e : p.1 = k) : valV (p :: r) k = some p.2 := by simp [valV, List.find?_cons, e]
theorem valV_neg {p : κ × V} {r : List (κ × V)} {k : κ} (e : ¬ p.1 = k) : valV (p :: r) k = valV r k := by simp [valV, List.find?_cons, e]
theorem valV_any (k : κ) : ∀ kvs : List (κ × V), (kvs.any fun kv => decide (kv.1 = k)) = (valV kvs k).isSome
  | [] => rfl
  | p :: r => by
    rw [List.any_cons]
    by_cases e : p.1 = k
    · simp only [valV_pos e, decide_eq_true e, Bool.true_or, Option.isSome_some]
    · rw [valV_neg e, decide_eq_false e, Bool.false_or]; exact valV_any k r
theorem length_putK (kvs : List (κ × V)) (k : κ) (v : V) : (putK kvs k v).length <= kvs.length + 1 := by
  unfold putK
  split
  · rw [List.length_map]; lia
  · rw [List.length_append, List.length_cons, List.length_nil]; lia
theorem RelO.isSome_eq {o : Option V} {u : Option Value} (r : RelO o u) : o.isSome = u.isSome := by
  cases o with
  | none => cases u with
    | none => rfl
    | some _ => exact (show False from r).elim
  | some _ => cases u with
    | none => exact (show False from r).elim
    | some _ => rfl
theorem RelO.getD {o : Option V} {u : Option Value} {d : V} {d' : Value} (r : RelO o u) (rd : RelV d d') : RelV (o.getD d) (u.getD d') := by
  cases o with
  | none => cases u with
    | none => exact rd
    | some _ => exact (show False from r).elim
  | some _ => cases u with
    | none => exact (show False from r).elim
    | some _ => exact r
theorem KV.val {kvs : List (κ × V)} {vs : List (κ × Value)} (r : KV kvs vs) (k : κ) : RelO (valV kvs k) (valueAt vs k) := by
  unfold KV at r
  induction r with
  | nil => exact True.intro
  | @cons p q ps qs h t ih =>
    obtain ⟨h1, h2⟩ := h
    by_cases e : p.1 = k
    · have e' : q.1 = k := h1.symm.trans e
      have b : valueAt (q :: qs) k = some q.2 := by simp [valueAt, List.find?_cons, e']
      rw [valV_pos e, b]; exact h2
    · have e' : ¬ q.1 = k := fun z => e (h1.trans z)
      have b : valueAt (q :: qs) k = valueAt qs k := by simp [valueAt, List.find?_cons, e']
      rw [valV_neg e, b]; exact ih
theorem KV.any {kvs : List (κ × V)} {vs : List (κ × Value)} (r : KV kvs vs) (k : κ) : (kvs.any fun kv => decide (kv.1 = k)) = vs.any fun kv => decide (kv.1 = k) := by
  unfold KV at r
  induction r with
  | nil => rfl
  | cons h t ih => rw [List.any_cons, List.any_cons, ih, h.1]
theorem KV.repl {kvs : List (κ × V)} {vs : List (κ × Value)} (r : KV kvs vs) (k : κ) {y : V} {u : Value} (ry : RelV y u) :
    KV (kvs.map fun kv => if kv.1 = k then (kv.1, y) else kv) (vs.map fun kv => if kv.1 = k then (kv.1, u) else kv) := by
  unfold KV at r ⊢
  induction r with
  | nil => exact .nil
  | @cons p q ps qs h t ih =>
    rw [List.map_cons, List.map_cons]
    refine .cons ?_ ih
    obtain ⟨h1, h2⟩ := h
    by_cases e : p.1 = k
    · rw [if_pos e, if_pos (h1.symm.trans e)]; exact ⟨h1, ry⟩
    · rw [if_neg e, if_neg (fun z => e (h1.trans z))]; exact ⟨h1, h2⟩
theorem KV.put {kvs : List (κ × V)} {vs : List (κ × Value)} (r : KV kvs vs) (k : κ) {y : V} {u : Value} (ry : RelV y u) : KV (putK kvs k y) (stored vs k u) := by
  unfold putK stored
  rw [r.any k]
  by_cases e : (vs.any fun kv => decide (kv.1 = k)) = true
  · rw [if_pos e, if_pos e]; exact r.repl k ry
  · rw [if_neg e, if_neg e]; exact Paired.snoc r ⟨rfl, ry⟩
theorem KV.length {kvs : List (κ × V)} {vs : List (κ × Value)} (r : KV kvs vs) : kvs.length = vs.length := Paired.length r
end
theorem kV_is {P : Program} {w : World} {k : Key} {u : Value} (r : RelV (kV k) u) : (mixKind P w).is k u = true := by
  cases k with
  | inl i => obtain ⟨t, e⟩ := (show ∃ t, u = Value.int i t from r); subst e; exact mixKind_int P w i t
  | inr x => obtain ⟨t, e⟩ := (show ∃ t, u = Value.str x t from r); subst e; exact mixKind_str P w x t
theorem items_are {P : Program} {w : World} : ∀ {ks : List Key} {us : List Value}, Vals (ks.map kV) us -> ItemsAre (mixKind P w) ks us
  | [], _, r => by rw [List.map_nil] at r; cases r; exact .nil
  | k :: ks, _, r => by
    rw [List.map_cons] at r
    cases r with
    | cons h t => exact .cons (kV_is h) (items_are t)
abbrev KT (H : Hp) : List (List Key × V) -> List (List Key × Addr × Value) -> Prop := Paired fun p q => p.1 = q.1 /\ H q.2.1 = some (.tup (p.1.map kV)) /\ RelV p.2 q.2.2
theorem KT.val {H : Hp} {kvs : List (List Key × V)} {xs : List (List Key × Addr × Value)} (r : KT H kvs xs) (k : List Key) : RelO (valV kvs k) ((atKey xs k).map (·.2)) := by
  induction r with
  | nil => exact True.intro
  | @cons p q ps qs h t ih =>
    obtain ⟨h1, _, h2⟩ := h
    by_cases e : p.1 = k
    · have e' : q.1 = k := h1.symm.trans e
      have b : atKey (q :: qs) k = some q.2 := by simp [atKey, List.find?_cons, e']
      rw [valV_pos e, b]; exact h2
    · have e' : ¬ q.1 = k := fun z => e (h1.trans z)
      have b : atKey (q :: qs) k = atKey qs k := by simp [atKey, List.find?_cons, e']
      rw [valV_neg e, b]; exact ih
theorem KT.repl {H : Hp} {kvs : List (List Key × V)} {xs : List (List Key × Addr × Value)} (r : KT H kvs xs) (k : List Key) {y : V} {u : Value} (ry : RelV y u) :
    KT H (kvs.map fun kv => if kv.1 = k then (kv.1, y) else kv) (xs.map (putAt k u)) := by
  induction r with
  | nil => exact .nil
  | @cons p q ps qs h t ih =>
    rw [List.map_cons, List.map_cons]
    refine .cons ?_ ih
    obtain ⟨h1, h2, h3⟩ := h
    unfold putAt
    by_cases e : p.1 = k
    · rw [if_pos e, if_pos (h1.symm.trans e)]; exact ⟨h1, h2, ry⟩
    · rw [if_neg e, if_neg (fun z => e (h1.trans z))]; exact ⟨h1, h2, h3⟩
theorem KT.put {H : Hp} {kvs : List (List Key × V)} {xs : List (List Key × Addr × Value)} (r : KT H kvs xs) (k : List Key) {b : Addr} {y : V} {u : Value} (hb : H b = some (.tup (k.map kV))) (ry : RelV y u) :
    KT H (putK kvs k y) (storedH xs k b u) := by
  have e : (kvs.any fun kv => decide (kv.1 = k)) = (atKey xs k).isSome := by
    rw [valV_any, (r.val k).isSome_eq, Option.isSome_map]
  unfold putK storedH
  rw [e]
  by_cases q : (atKey xs k).isSome = true
  · rw [if_pos q, if_pos q]; exact r.repl k ry
  · rw [if_neg q, if_neg q]; exact Paired.snoc r ⟨rfl, hb, ry⟩
theorem KT.keeps {H H' : Hp} {kvs : List (List Key × V)} {xs : List (List Key × Addr × Value)} (r : KT H kvs xs) (ht : ∀ b ys, H b = some (.tup ys) -> H' b = some (.tup ys)) : KT H' kvs xs :=
  Paired.mapP r fun _ _ z => ⟨z.1, ht _ _ z.2.1, z.2.2⟩
section
variable {P : Program} {w : World} {H : Hp} {h : Heap} {a : Addr}
theorem rd_of {u : HO} (ok : HOk P w H h) (e : Rd H a u) : ObjOk P w H h a u := e.ok ok
theorem dk_rd {kvs : List (Key × V)} (ok : HOk P w H h) (e : Rd H a (.dK kvs)) : kvs.length <= sizeLine /\ (a == sysModules) = false /\ ∃ vs, KV kvs vs /\ h.DictOf (mixKind P w) a vs :=
  show ObjOk P w H h a (.dK kvs) from rd_of ok e
theorem dk_of {kvs : List (Key × V)} (ok : HOk P w H h) (e : H a = some (.dK kvs)) : kvs.length <= sizeLine /\ (a == sysModules) = false /\ ∃ vs, KV kvs vs /\ h.DictOf (mixKind P w) a vs := dk_rd ok (.inl e)
theorem key_of {ks : List Key} (ok : HOk P w H h) (e : H a = some (.tup (ks.map kV))) : (tupleKind (mixKind P w)).is h ks a := by
  obtain ⟨_, its, r, o, h1, h2, n, h3⟩ := (show ObjOk P w H h a (.tup (ks.map kV)) from ok a _ e)
  exact ⟨o, its.toArray, n, h1, h2, h3, by simpa using items_are r⟩
theorem dt_rd {kvs : List (List Key × V)} (ok : HOk P w H h) (e : Rd H a (.dT kvs)) : kvs.length <= sizeLine /\ (a == sysModules) = false /\
    ∃ xs, KT H kvs xs /\ h.DictOfH (tupleKind (mixKind P w)) a xs := by
  obtain ⟨z, y, xs, r, o, es, ep, h1, h2, h3, h4, h5⟩ := (show ObjOk P w H h a (.dT kvs) from rd_of ok e)
  refine ⟨z, y, xs, r, o, es, ep, h1, h2, h3, h4, fun x hx => ?_, h5⟩
  have all : ∀ {l : List (List Key × V)} {m : List (List Key × Addr × Value)}, KT H l m -> ∀ x ∈ m, (tupleKind (mixKind P w)).is h x.1 x.2.1 := by
    intro l m q
    induction q with
    | nil => intro x hx; exact nomatch hx
    | @cons p q ps qs hq t ih =>
      intro x hx
      rcases List.mem_cons.mp hx with e | hx
      · subst e
        exact key_of ok (by rw [<- hq.1]; exact hq.2.1)
      · exact ih x hx
  exact all r x hx
theorem dt_of {kvs : List (List Key × V)} (ok : HOk P w H h) (e : H a = some (.dT kvs)) : kvs.length <= sizeLine /\ (a == sysModules) = false /\
    ∃ xs, KT H kvs xs /\ h.DictOfH (tupleKind (mixKind P w)) a xs := dt_rd ok (.inl e)
end
def DGet (H : Hp) (a : Addr) (y : V) (r : Option V) : Prop :=
  (∃ kvs k, Rd H a (.dK kvs) /\ y = kV k /\ r = valV kvs k) \/ ∃ kvs k b, Rd H a (.dT kvs) /\ y = .ref b /\ H b = some (.tup (k.map kV)) /\ r = valV kvs k
def DPut (H : Hp) (a : Addr) (y v : V) (H' : Hp) : Prop :=
  (∃ kvs k, H a = some (.dK kvs) /\ y = kV k /\ kvs.length < sizeLine /\ H' = upd H a (.dK (putK kvs k v))) \/
  ∃ kvs k b, H a = some (.dT kvs) /\ y = .ref b /\ H b = some (.tup (k.map kV)) /\ kvs.length < sizeLine /\ H' = upd H a (.dT (putK kvs k v))
theorem DGet.t {H : Hp} {a b : Addr} {kvs : List (List Key × V)} {k : List Key} (e : H a = some (.dT kvs)) (eb : H b = some (.tup (k.map kV))) : DGet H a (.ref b) (valV kvs k) := .inr ⟨kvs, k, b, .inl e, rfl, eb, rfl⟩
theorem DPut.t {H : Hp} {a b : Addr} {kvs : List (List Key × V)} {k : List Key} {v : V} (e : H a = some (.dT kvs)) (eb : H b = some (.tup (k.map kV))) (hl : kvs.length < sizeLine) :
    DPut H a (.ref b) v (upd H a (.dT (putK kvs k v))) := .inr ⟨kvs, k, b, e, rfl, eb, hl, rfl⟩
section
variable {X : Cx} {pins : List (Addr × Obj)} {σ : St} {H : Hp} {s : Shared} {a : Addr} {y v : V} {u r : Value} {o : Option V} {A : Around} {E : Value -> Shared -> Prop}
theorem Inv.big (I : Inv X pins σ H s) : sysModules < s.heap.objs.size := by
  have h : mainGlobals < s.heap.objs.size := (I.mod.glob.keeps I.bk).lt
  exact Nat.lt_trans (by decide) h
theorem d_getItem {Q : Value -> Shared -> Prop} (hu : A.units + 1 < cLine) (I : Inv X pins σ H s) (g : DGet H a y (some v)) (ry : RelV y u) (h : ∀ w' s', Inv X pins σ H s' -> RelV v w' -> Q w' s') :
    wpAny (model X.prog X.w) A (getItem (.ref a) u) Q E s := by
  rcases g with ⟨kvs, k, e, ey, l⟩ | ⟨kvs, k, b, e, ey, eb, l⟩
  · subst ey
    obtain ⟨z, hd, vs, rel, dd⟩ := dk_rd I.hok e
    obtain ⟨w', hw, rw'⟩ := RelO.some_of (v := v) (o := valueAt vs k) (by rw [l]; exact rel.val k)
    exact wpAny_getItem_of (kV_is ry) dd.mapOf hw (h w' _ (I.tok _) rw')
  · subst ey
    cases (show u = Value.ref b from ry)
    obtain ⟨z, hd, xs, rel, dd⟩ := dt_rd I.hok e
    obtain ⟨w', hw, rw'⟩ := RelO.some_of (v := v) (o := (atKey xs k).map (·.2)) (by rw [l]; exact rel.val k)
    obtain ⟨p, hp, hp2⟩ := Option.map_eq_some_iff.mp hw
    refine wpAny_getItem_heap (tupleKind_room_in1 hu) (key_of I.hok eb) dd hp ?_
    rw [hp2]
    exact h w' _ (I.tok _) rw'
theorem d_write {h' : Heap} {t' : Nat} {ob : HO} (I : Inv X pins σ H s) (mu : Mut (H a)) (hs : Heap.SameBut a s.heap h') (he : ∃ q, h'.get? a = some q) (new : ObjOk X.prog X.w (upd H a ob) h' a ob) :
    Inv X pins σ (upd H a ob) { s with heap := h', toks := t' } :=
  I.write (x := a) (e := a) mu (.inl rfl) (fun b q hb z => (hs.2 b hb).trans z) he new
theorem dk_new {P : Program} {w : World} {H' : Hp} {h' : Heap} {kvs : List (Key × V)} {vs : List (Key × Value)} (z : kvs.length <= sizeLine) (hd : (a == sysModules) = false) (rel : KV kvs vs) (dd : h'.DictOf (mixKind P w) a vs) :
    ObjOk P w H' h' a (.dK kvs) := ⟨z, hd, vs, rel, dd⟩
theorem d_setItem {H' : Hp} {Q : Unit -> Shared -> Prop} (hu : A.units + 1 < cLine) (I : Inv X pins σ H s) (g : DPut H a y v H') (ry : RelV y u) (rv : RelV v r) (h : ∀ s', Inv X pins σ H' s' -> Q () s') :
    wpAny (model X.prog X.w) A (setItem (.ref a) u r) Q E s := by
  rcases g with ⟨kvs, k, e, ey, l, eH⟩ | ⟨kvs, k, b, e, ey, eb, l, eH⟩
  · subst ey eH
    obtain ⟨z, hd, vs, rel, dd⟩ := dk_of I.hok e
    have hz : vs.length <= sizeLine := by rw [<- rel.length]; exact z
    have hl : (putK kvs k v).length <= sizeLine := by have := length_putK kvs k v; lia
    refine wpAny_setItem_pairs (hsz := hz) (kV_is ry) dd fun h' dd' hs => h _ ?_
    have he : ∃ q, h'.get? a = some q := let ⟨q, _, _, hq, _⟩ := dd'; ⟨q, hq⟩
    exact d_write I (by rw [e]; exact True.intro) hs he (dk_new hl hd (rel.put k rv) dd')
  · subst ey eH
    cases (show u = Value.ref b from ry)
    obtain ⟨z, hd, xs, rel, dd⟩ := dt_of I.hok e
    have hz : xs.length <= sizeLine := by rw [<- Paired.length rel]; exact z
    have hl : (putK kvs k v).length <= sizeLine := by have := length_putK kvs k v; lia
    refine wpAny_setItem_heap (hsz := hz) (tupleKind_room_in1 hu) (key_of I.hok eb) dd fun h' dd' hs => h _ ?_
    obtain ⟨q, es, ep, hq, h2, h3, h4, _, h5⟩ := dd'
    refine d_write I (by rw [e]; exact True.intro) hs ⟨q, hq⟩ ⟨hl, hd, _, (rel.put k eb rv).keeps fun c ys ec => ?_, q, es, ep, hq, h2, h3, h4, h5⟩
    rw [upd_ne (ne_of ec e (fun z => nomatch z))]
    exact ec
end
section
variable {X : Cx} {pins : List (Addr × Obj)} {σ : St} {H : Hp} {s : Shared} {a : Addr} {kvs : List (Key × V)} {k : Key} {u : Value} {A : Around} {E : Value -> Shared -> Prop}
end
def NoSl (i : Expr) : Prop := ∀ ov iv, subscripted i false ov iv = operate [ov, iv] (getItem ov iv)
theorem subD_of {prog : Program} {w : World} {A : Around} {E : Value -> Shared -> Prop} {s : Shared} {env : Env} {value slice : Expr} {pos : Pos} {T id : String} {Q : Value -> Shared -> Prop}
    (hl : typeLookup (.type T) "__getitem__" = pure (some (.builtin id))) (hs : NoSl slice)
    (h : wpAny (model prog w) A (eval value env) (fun o s₁ => wpAny (model prog w) A (eval slice env) (fun i s₂ => s₂.TypeIs o T /\ wpAny (model prog w) A (getItem o i) Q E s₂) E s₁) E s) :
    wpAny (model prog w) A (eval (.Subscript value slice pos) env) Q E s := by
  refine Subscript_ (wpAny_mono h (fun o s₁ h₁ => wpAny_mono h₁ (fun i s₂ h₂ => ?_) fun _ _ x => x) fun _ _ x => x)
  obtain ⟨hT, h₂⟩ := h₂
  unfold subscriptTail
  refine wpAny_bind ?_
  rw [getitemInPython_of_ne hT.not_modules]
  refine wpAny_bind (wpAny_specialOf hT hl ?_)
  have fin : wpAny (model prog w) A (subscripted slice false o i) (fun r s₃ => wpAny (model prog w) A (letTemporaryGo value o r >>= fun _ => pure r) Q E s₃) E s₂ := by
    rw [hs o i]
    exact wpAny_operating (wpAny_mono h₂ (fun r s₃ h₃ => wpAny_bind (wpAny_letTemporaryGo (wpAny_pure h₃))) fun _ _ x => x)
  first
    | exact wpAny_pure (wpAny_bind fin)
    | exact wpAny_bind (wpAny_pure (wpAny_bind fin))
    | exact wpAny_bind fin
theorem dict_typeIs {X : Cx} {pins : List (Addr × Obj)} {σ : St} {H : Hp} {s : Shared} {a : Addr} {y : V} {o : Option V} (I : Inv X pins σ H s) (g : DGet H a y o) : s.TypeIs (.ref a) "dict" := by
  rcases g with ⟨kvs, k, e, _, _⟩ | ⟨kvs, k, b, e, _, _, _⟩
  · obtain ⟨_, _, vs, _, dd⟩ := dk_rd I.hok e
    exact dd.typeIs
  · obtain ⟨_, _, xs, _, dd⟩ := dt_rd I.hok e
    exact dd.typeIs
def tDGet (td ty : TE) : TE := fun σ H Q => td σ H fun x H1 => ty σ H1 fun y H2 => ∃ a v, x = .ref a /\ DGet H2 a y (some v) /\ Q v H2
def sDPut (td ty tv : TE) : TS := fun D σ H => tv σ H fun v H1 => td σ H1 fun x H2 => ty σ H2 fun y H3 => ∃ a H4, x = .ref a /\ DPut H3 a y v H4 /\ D.nx σ H4
section
variable {X : Cx} {o i e value : Expr} {pos pos' tpos : Pos} {td ty tv : TE}
theorem pe_dget (hu : X.A.units + 1 < cLine) (ho : PE X o td) (hi : PE X i ty) (hs : NoSl i) : PE X (.Subscript o i pos) (tDGet td ty) := by
  intro pins s σ H Q I h
  refine subD_of PySem.F.slot_dict_getitem.lookup hs (thn (ho pins s σ H _ I h) fun u s1 ⟨x, H1, I1, rx, q1⟩ => thn (hi pins s1 σ H1 _ I1 q1) fun iv s2 ⟨y, H2, I2, ry, a, v, ex, g, q2⟩ => ?_)
  subst ex
  obtain rfl : u = Value.ref a := rx
  exact ⟨dict_typeIs I2 g, d_getItem hu I2 g ry fun w' s3 I3 rw' => ⟨v, H2, I3, rw', q2⟩⟩
theorem ps_dput (hu : X.A.units + 1 < cLine) (ho : PE X o td) (hi : PE X i ty) (hv : PE X value tv) (hs : swapsWith value (some (.Subscript o i pos')) pos.line X.env = pure false) :
    PS X (.Assign [.Subscript o i pos'] value pos) (sDPut td ty tv) := by
  intro pins s σ H D I h
  refine wpAny_Assign_Subscript (thn (hv pins s σ H _ I h) fun r s1 ⟨v, H1, I1, rv, q1⟩ => thn (ho pins s1 σ H1 _ I1 q1) fun u s2 ⟨x, H2, I2, rx, q2⟩ => thn (hi pins s2 σ H2 _ I2 q2) fun iv s3 ⟨y, H3, I3, ry, a, H4, ex, g, q3⟩ => ?_) hs
  subst ex
  obtain rfl : u = Value.ref a := rx
  exact d_setItem hu I3 g ry rv fun s4 I4 => ⟨σ, H4, I4, q3⟩
end
theorem dt_empty {P : Program} {w : World} {H : Hp} (h : Heap) (hb : sysModules < h.objs.size) : ObjOk P w H (h.push { cls := .type "dict", data := .dict #[] }) h.objs.size (.dT []) :=
  ⟨Nat.zero_le _, beq_eq_false_iff_ne.mpr (Ne.symm (Nat.ne_of_lt hb)), [], .nil, _, #[], 0, Heap.get?_push_size _ rfl, ⟨rfl, rfl, rfl⟩, rfl, rfl, List.nodup_nil⟩
def tDNewT : TE := fun _ H Q => ∀ p, H p = none -> Q (.ref p) (upd H p (.dT []))
section
variable {X : Cx} {pos : Pos}
theorem pe_dnewT : PE X (.Dict [] [] pos) tDNewT := fun pins s σ H Q I h =>
  wpAny_Dict_empty ⟨.ref s.heap.objs.size, _, I.laid (a := s.heap.objs.size) (o := .dT []) (t' := s.toks) (fun _ _ q => Heap.get?_push_of_some _ q) (Nat.le_refl _) (dt_empty s.heap I.big), rfl, h _ (I.hok.fresh (Nat.le_refl _))⟩
end
structure M2 (X : Cx) (o : Expr) (m : Str) (apos : Pos) (e f : Expr) (cpos : Pos) : Prop where
  base : attributeBase o m X.env (eval o X.env) = eval o X.env
  few : ((backTo cpos (starEach [e, f] X.env)).all (fun x => !x.1) && (backToKw cpos (keywordEach [] X.env)).all (fun x => x.1.isSome)
    && decide (([e, f] : List Expr).length + ([] : List Keyword).length + (if ([] : List Keyword).isEmpty then 0 else 1) < 30)) = true
  line : (apos.endLine == cpos.line) = true
  trees : backTo cpos (starEach [e, f] X.env) = [(false, eval e X.env), (false, eval f X.env)]
def IsD (H : Hp) (a : Addr) : Prop := (∃ kvs, Rd H a (.dK kvs)) \/ ∃ kvs, Rd H a (.dT kvs)
theorem isD_at {X : Cx} {pins : List (Addr × Obj)} {σ : St} {H : Hp} {s : Shared} {a : Addr} (I : Inv X pins σ H s) (d : IsD H a) :
    s.TypeIs (.ref a) "dict" /\ (∀ b, Value.ref a = .ref b -> ∃ ob, s.heap.get? b = some ob /\ ob.dict = none) /\ (a == sysModules) = false := by
  rcases d with ⟨kvs, e⟩ | ⟨kvs, e⟩
  · obtain ⟨_, hd, vs, _, dd⟩ := dk_rd I.hok e
    refine ⟨dd.typeIs, fun b q => ?_, hd⟩
    cases q
    obtain ⟨ob, _, _, h1, h2, _⟩ := dd
    exact ⟨ob, h1, h2.2.1⟩
  · obtain ⟨_, hd, xs, _, dd⟩ := dt_rd I.hok e
    refine ⟨dd.typeIs, fun b q => ?_, hd⟩
    cases q
    obtain ⟨ob, _, _, h1, h2, _⟩ := dd
    exact ⟨ob, h1, h2.2.1⟩
section
variable {X : Cx} {pins : List (Addr × Obj)} {σ : St} {H : Hp} {s : Shared} {a : Addr} {y d : V} {u r : Value} {o : Option V} {A : Around} {E : Value -> Shared -> Prop}
theorem d_get2 {Q : Value -> Shared -> Prop} (hu : A.units + 1 < cLine) (I : Inv X pins σ H s) (g : DGet H a y o) (ry : RelV y u) (rd : RelV d r) (h : ∀ w' s', Inv X pins σ H s' -> RelV (o.getD d) w' -> Q w' s') :
    wpAny (model X.prog X.w) A (call (.builtin "dict.get") [.ref a, u, r]) Q E s := by
  rcases g with ⟨kvs, k, e, ey, l⟩ | ⟨kvs, k, b, e, ey, eb, l⟩
  · subst ey
    obtain ⟨z, hd, vs, rel, dd⟩ := dk_rd I.hok e
    refine call_meetsIn PySem.F.slot_dict_get dd.typeIs PySem.F.entry_dict_get (PySem.F.args_dict_get_3 _ _ _) (meets_dict_get_default (mixKind X.prog X.w) a (kV_is ry) hd r) ⟨_, dd.mapOf, h _ _ (I.tok _) ?_⟩
    rw [l]
    exact (rel.val k).getD rd
  · subst ey
    cases (show u = Value.ref b from ry)
    obtain ⟨z, hd, xs, rel, dd⟩ := dt_rd I.hok e
    refine call_meetsIn PySem.F.slot_dict_get dd.typeIs PySem.F.entry_dict_get (PySem.F.args_dict_get_3 _ _ _) (meetsH_dict_get_default (tupleKind (mixKind X.prog X.w)) a b hd r) ⟨tupleKind_room_in1 hu, k, xs, key_of I.hok eb, dd, h _ _ (I.tok _) ?_⟩
    rw [l]
    exact (rel.val k).getD rd
end
def tDGet2 (td ty tx : TE) : TE := fun σ H Q => td σ H fun x H1 => ∃ a, x = .ref a /\ IsD H1 a /\ ty σ H1 fun y H2 => tx σ H2 fun z H3 => ∃ o, DGet H3 a y o /\ Q (o.getD z) H3
section
variable {X : Cx} {o e f : Expr} {apos cpos : Pos} {td ty tx : TE}
theorem pe_dget2 (hu : X.A.units + 1 < cLine) (ho : PE X o td) (he : PE X e ty) (hf : PE X f tx) (m : M2 X o "get" apos e f cpos) : PE X (.Call (.Attribute o "get" apos) [e, f] [] cpos) (tDGet2 td ty tx) := by
  intro pins s σ H Q I h
  refine wpAny_Call_method m.base m.few m.line PySem.F.plainAttrs_dict PySem.F.slot_dict_get PySem.F.type_dict_get (thn (ho pins s σ H _ I h) fun u s1 ⟨x, H1, I1, rx, a, ex, d, q1⟩ => ?_)
  subst ex
  obtain rfl : u = Value.ref a := rx
  obtain ⟨t1, t2, _⟩ := isD_at I1 d
  refine ⟨t1, t2, ?_⟩
  rw [m.trees]
  refine Calls.callWith_builtin rfl (Calls.evalArgs_plain (Calls.spliced_cons (thn (he pins s1 σ H1 _ I1 q1) fun iv s2 ⟨y, H2, I2, ry, q2⟩ =>
    Calls.spliced_cons (thn (hf pins s2 σ H2 _ I2 q2) fun fv s3 ⟨z, H3, I3, rz, ov, g, q3⟩ => Calls.spliced_nil ?_))))
  exact d_get2 hu I3 g ry rz fun w' s4 I4 rw' => ⟨_, H3, I4, rw', q3⟩
end
section
variable {X : Cx} {pins : List (Addr × Obj)} {σ : St} {H : Hp} {s : Shared} {a : Addr} {kvs : List (Key × V)} {A : Around} {E : Value -> Shared -> Prop}
end
section
variable {X : Cx} {pins : List (Addr × Obj)} {σ : St} {H : Hp} {s : Shared} {a : Addr} {y : V} {u : Value} {A : Around} {E : Value -> Shared -> Prop}
end
section
variable {prog : Program} {w : World} {A : Around} {E : Value -> Shared -> Prop} {s : Shared} {it d v : Addr} {i ep : Nat} {es : Array DictEntry} {o : Obj}
theorem keys_next {e : DictEntry} {Q : Option Value -> Shared -> Prop} (hit : s.heap.IsKeyIter it d i es.size ep) (ho : s.heap.get? d = some o) (hd : o.data = .dict es ep) (hx : es[i]? = some e)
    (q : ∀ h', h'.IsKeyIter it d (i + 1) es.size ep -> Heap.SameBut it s.heap h' -> Q (some e.key) { s with heap := h' }) : wpAny (model prog w) A (pyNext (.ref it)) Q E s := by
  obtain ⟨u, hu, hc, hf⟩ := id hit
  have ty := hit.typeIs
  obtain ⟨lt, eg⟩ := Array.getElem?_eq_some_iff.mp hx
  unfold pyNext
  refine wpAny_bind (wpAny_attempt (wpAny_callSpecial?_slot (name := Str.ofString "__next__") ty F.slot_dict_keyiterator_next (wpAny_call_entry F.slot_dict_keyiterator_next ty F.entry_dict_keyiterator_next ?_ (F.args_dict_keyiterator_next_1 _))))
  refine wpAny_bind (wpAny_pure (wpAny_bind (wpAny_bind (wpAny_bind (wpAny_typeNameOfWhole_keyiter ty (wpAny_pure (wpAny_bind (wpAny_fieldsOf hu hf ?_))))))))
  simp only [show Builtin.Dict_items.ownsTuple "dict_keyiterator" = false from by decide, Bool.false_eq_true, if_false]
  show wpAny _ _ (if (Value.ref d == Value.none) = true then _ else _) _ _ s
  rw [if_neg (show ¬ (Value.ref d == Value.none) = true from Bool.false_ne_true)]
  refine wpAny_bind (wpAny_pure (wpAny_bind (wpAny_dictEntries ho hd ?_)))
  rw [if_neg (by simp)]
  refine wpAny_bind (wpAny_pure (wpAny_bind (wpAny_dictEpoch ho hd ?_)))
  rw [if_neg (by simp)]
  refine wpAny_pure ?_
  simp only [show ¬ ((i : Int) < 0) from by lia, if_false, Int.toNat_natCast, hx]
  refine wpAny_bind (wpAny_bind (wpAny_typeNameOfWhole_keyiter ty (wpAny_pure (wpAny_bind (wpAny_isOneOf_keyiter ty ?_)))))
  show wpAny _ _ (setField (.ref it) 1 (rawInt ((i : Int) + 1)) >>= _) _ _ s
  refine wpAny_bind (wpAny_setField hu hf (by simp) ?_)
  have nx : (s.heap.update it (Obj.mapFields (·.setIfInBounds 1 (rawInt ((i : Int) + 1))))).IsKeyIter it d (i + 1) es.size ep :=
    ⟨_, Heap.get?_update_self _ hu (Obj.isFreed_of_fields (Obj.data_mapFields hf _)), (Obj.cls_mapFields ..).trans hc, (Obj.data_mapFields hf _).trans (by simp [rawInt])⟩
  refine wpAny_bind (wpAny_holding (wpAny_bind (wpAny_isOneOf_keyiter (s := { s with heap := s.heap.update it (Obj.mapFields (·.setIfInBounds 1 (rawInt ((i : Int) + 1)))) }) nx.typeIs ?_)))
  show wpAny _ _ (pure e.key) _ _ _
  exact wpAny_pure (wpAny_pure ⟨_, rfl, wpAny_pure (q _ nx (Heap.SameBut.update ..))⟩)
theorem keys_end {Q : Option Value -> Shared -> Prop} (hh : A.handled = none) (hit : s.heap.IsKeyIter it d i es.size ep) (ho : s.heap.get? d = some o) (hd : o.data = .dict es ep) (hx : es.size <= i)
    (q : ∀ h', Heap.ExtBut it s.heap h' -> Q none { s with heap := h' }) : wpAny (model prog w) A (pyNext (.ref it)) Q E s := by
  obtain ⟨u, hu, hc, hf⟩ := id hit
  have ty := hit.typeIs
  unfold pyNext
  refine wpAny_bind (wpAny_attempt (wpAny_callSpecial?_slot (name := Str.ofString "__next__") ty F.slot_dict_keyiterator_next (wpAny_call_entry F.slot_dict_keyiterator_next ty F.entry_dict_keyiterator_next ?_ (F.args_dict_keyiterator_next_1 _))))
  refine wpAny_bind (wpAny_pure (wpAny_bind (wpAny_bind (wpAny_bind (wpAny_typeNameOfWhole_keyiter ty (wpAny_pure (wpAny_bind (wpAny_fieldsOf hu hf ?_))))))))
  simp only [show Builtin.Dict_items.ownsTuple "dict_keyiterator" = false from by decide, Bool.false_eq_true, if_false]
  show wpAny _ _ (if (Value.ref d == Value.none) = true then _ else _) _ _ s
  rw [if_neg (show ¬ (Value.ref d == Value.none) = true from Bool.false_ne_true)]
  refine wpAny_bind (wpAny_pure (wpAny_bind (wpAny_dictEntries ho hd ?_)))
  rw [if_neg (by simp)]
  refine wpAny_bind (wpAny_pure (wpAny_bind (wpAny_dictEpoch ho hd ?_)))
  rw [if_neg (by simp)]
  refine wpAny_pure ?_
  simp only [show ¬ ((i : Int) < 0) from by lia, if_false, Int.toNat_natCast, Array.getElem?_eq_none hx]
  refine wpAny_bind (wpAny_bind (wpAny_typeNameOfWhole_keyiter ty (wpAny_pure ?_)))
  show wpAny _ _ (setField (.ref it) 0 .none >>= _) _ _ s
  refine wpAny_bind (wpAny_setField hu hf (by simp) ?_)
  show wpAny _ _ (newExc (.type "StopIteration") [] >>= _) _ _ _
  refine wpAny_bind ?_
  simp only [newExc, newTuple]
  refine wpAny_bind (wpAny_newObj_type (wpAny_bind (m := firstArgMember _ _) (wpAny_of_eq (a := Value.none) (by first | rfl | (simp only [firstArgMember]; rfl)) (wpAny_newObj_type ?_ (by size_fits)))) (by size_fits))
  simp only [raiseNew]
  refine wpAny_bind (wpAny_handled ?_)
  rw [show A.in1.handled = none from hh]
  refine wpAny_bind (wpAny_pure (wpAny_throw ?_))
  exact wpAny_bind (wpAny_isInstance (T := "StopIteration") (b := true) ⟨_, Heap.get?_push_size _ rfl, rfl⟩ isSubtype_stop (wpAny_pure (q _ (((Heap.SameBut.update ..).extBut.push _).push _))))
theorem keys_iter {Q : Value -> Shared -> Prop} (hs : (d == sysModules) = false) (ho : s.heap.get? d = some o) (hx : o.ExactDict) (hd : o.data = .dict es ep)
    (q : Q (.ref s.heap.objs.size) { s with heap := s.heap.push { cls := .type "dict_keyiterator", data := .fields #[.ref d, .int 0 0, .int es.size 0, .int ep 0] } }) : wpAny (model prog w) A (pyIter (.ref d)) Q E s := by
  have ty : s.TypeIs (.ref d) "dict" := ⟨o, ho, hx.1⟩
  refine wpAny_pyIter_slot ty F.slot_dict_iter (wpAny_call_entry F.slot_dict_iter ty F.entry_dict_iter ?_ (F.args_dict_iter_1 _))
  unfold Builtin.«dict.__iter__»
  refine wpAny_bind ?_
  unfold Builtin.Dict.dictSlotNone
  refine wpAny_bind (wpAny_notOrdered_dict ty ?_)
  show wpAny _ _ (pure (Value.ref d)) _ _ s
  refine wpAny_pure ?_
  show wpAny _ _ (Builtin.Dict.showsAll d >>= _) _ _ s
  unfold Builtin.Dict.showsAll
  rw [if_neg (by rw [hs]; exact Bool.false_ne_true)]
  refine wpAny_bind (wpAny_pure (wpAny_bind (wpAny_dictEntries ho hd (wpAny_bind (wpAny_dictEpoch ho hd ?_)))))
  refine wpAny_bind (wpAny_newObj_type (wpAny_pure ⟨_, rfl, "dict_keyiterator", _, ⟨_, Heap.get?_push_size _ rfl, rfl⟩, F.slot_dict_keyiterator_next.lookup, ?_⟩))
  simpa [rawInt] using q
end
abbrev TTab := List (List Key × V)
section
variable {X : Cx} {pins : List (Addr × Obj)} {σ : St} {H : Hp} {s : Shared} {d : Addr} {kvs : TTab}
theorem KT.at {H : Hp} : ∀ {kvs : TTab} {xs : List (List Key × Addr × Value)} {i : Nat} {k : List Key} {v : V}, KT H kvs xs -> kvs[i]? = some (k, v) -> ∃ b u, xs[i]? = some (k, b, u) /\ H b = some (.tup (k.map kV)) /\ RelV v u
  | _, _, _, _, _, .nil, e => by simp at e
  | _, _, 0, k, v, .cons (a := p) (b := q) r _, e => by
    simp at e
    subst e
    obtain ⟨r1, r2, r3⟩ := r
    obtain ⟨q1, q2, q3⟩ := q
    cases (show k = q1 from r1)
    exact ⟨q2, q3, by simp, r2, r3⟩
  | _, _, i + 1, k, v, .cons _ t, e => by
    obtain ⟨b, u, h1, h2⟩ := KT.at (i := i) t (by simpa using e)
    exact ⟨b, u, by simpa using h1, h2⟩
theorem frz_raw {o : Obj} (I : Inv X pins σ H s) (h : H d = some (.frz o (.dT kvs))) : s.heap.get? d = some o /\ ∃ xs es ep, KT H kvs xs /\ o.ExactDict /\ o.data = .dict es ep /\ es.toList = xs.map (entryOfKey (tupleKind (mixKind X.prog X.w))) := by
  obtain ⟨g, z, y, xs, r, o', es, ep, g', h1, h2, h3, _⟩ := I.hok d _ h
  rw [g] at g'
  cases g'
  exact ⟨g, xs, es, ep, r, h1, h2, h3⟩
theorem frz_at {o : Obj} {es : Array DictEntry} {ep : Nat} (I : Inv X pins σ H s) (h : H d = some (.frz o (.dT kvs))) (hd : o.data = .dict es ep) {i : Nat} {k : List Key} {v : V} (e : kvs[i]? = some (k, v)) :
    ∃ en b, es[i]? = some en /\ en.key = .ref b /\ H b = some (.tup (k.map kV)) /\ RelV v en.val := by
  obtain ⟨g, xs, es', ep', r, h1, h2, h3⟩ := frz_raw I h
  rw [hd] at h2
  cases h2
  obtain ⟨b, u, e1, e2, e3⟩ := KT.at r e
  have e4 : es.toList[i]? = some (entryOfKey (tupleKind (mixKind X.prog X.w)) (k, b, u)) := by rw [h3, List.getElem?_map, e1]; rfl
  exact ⟨_, b, by rw [Array.getElem?_toList] at e4; exact e4, rfl, e2, e3⟩
theorem Inv.freeze (I : Inv X pins σ H s) (h : H d = some (.dT kvs)) : ∃ o es ep, s.heap.get? d = some o /\ o.ExactDict /\ o.data = .dict es ep /\ (d == sysModules) = false /\ es.size = kvs.length /\ Inv X pins σ (upd H d (.frz o (.dT kvs))) s := by
  obtain ⟨z, y, xs, r, o, es, ep, g, h1, h2, h3, h4⟩ := I.hok d _ h
  refine ⟨o, es, ep, g, h1, h2, y, ?_, ?_⟩
  · have := congrArg List.length h3
    rw [List.length_map, <- Paired.length r] at this
    simpa using this
  · refine I.write (x := d) (e := d) (h' := s.heap) (t' := s.toks) (by rw [h]; exact True.intro) (.inl rfl) (fun _ _ _ q => q) ⟨o, g⟩ ⟨g, z, y, xs, KT.keeps r fun c ys ec => ?_, o, es, ep, g, h1, h2, h3, h4⟩
    rw [upd_ne (ne_of ec h (fun z => nomatch z))]
    exact ec
end
def ItDK (d : Addr) (o : Obj) (kvs : TTab) : It :=
  ⟨fun i H => H d = some (.frz o (.dT kvs)) /\ i < kvs.length, fun i H x H' => H' = H /\ ∃ b k v, x = .ref b /\ kvs[i]? = some (k, v) /\ H b = some (.tup (k.map kV)), fun i H => H d = some (.frz o (.dT kvs)) /\ kvs.length <= i⟩
theorem turn_dk {P : Program} {w : World} {K : PySem.W.Frag} {tg : Expr} (d it : Addr) (o : Obj) (es : Array DictEntry) (ep : Nat) (kvs : TTab) (hd : o.data = .dict es ep) (hn : es.size = kvs.length) :
    Turn P w K tg (ItDK d o kvs) [it] it (fun i h => h.IsKeyIter it d i es.size ep) where
  mem := by simp
  obj := fun i h st b hb => by
    have e : b = it := by simpa using hb
    subst e
    obtain ⟨u, e, c, f⟩ := st
    exact ⟨u, e, fun v z => by rw [f] at z; cases z⟩
  keep := fun i h h' st k => st.at fun o e => k it (by simp) o e
  item := by
    intro X hP hw hK hc i pins s σ H E I hf st hg
    subst hP hw hK
    obtain ⟨hq, hi⟩ := hg
    obtain ⟨g, _⟩ := frz_raw I hq
    obtain ⟨⟨k, v⟩, ek⟩ : ∃ p, kvs[i]? = some p := ⟨kvs[i], by simp [hi]⟩
    obtain ⟨en, b, e1, e2, e3, e4⟩ := frz_at I hq hd ek
    obtain ⟨f0, f1, f2, f3, f4, f5⟩ := hf it (by simp)
    refine keys_next st g hd e1 fun h' st' sb => ?_
    have I1 : Inv X pins σ H { s with heap := h' } := I.turned (t' := s.toks) (fun b o hb e => (sb.2 b hb).trans e) f0 f1 f3 f4 f5
    obtain ⟨u, e, c, f⟩ := id st'
    exact ⟨en.key, rfl, go_of (s := { s with heap := h' }) e c f (by decide) ⟨.ref b, H, I1, e2, ⟨rfl, b, k, v, rfl, ek, e3⟩, st', fun b hb => (hf b hb).1⟩⟩
  done := by
    intro X hP hw hK hc i pins s σ H E I hf st hg
    subst hP hw hK
    obtain ⟨hq, hi⟩ := hg
    obtain ⟨g, _⟩ := frz_raw I hq
    obtain ⟨f0, f1, f2, f3, f4, f5⟩ := hf it (by simp)
    exact keys_end (I.ok.hd hc) st g hd (by lia) fun h' eb => ⟨rfl, I.turned (t' := s.toks) (fun b o hb e => eb b o hb e) f0 f1 f3 f4 f5⟩
  self := fun _ _ _ _ _ st h => wpAny_pyIter_keyiter st h
def iDK (td : TE) : TI := fun σ H R => td σ H fun x H1 => ∃ d kvs, x = .ref d /\ H1 d = some (.dT kvs) /\ ∀ o, R (ItDK d o kvs) (upd H1 d (.frz o (.dT kvs)))
theorem pi_dkeys {X : Cx} {tg l : Expr} {tl : TE} (hl : PE X l tl) : PI X tg l (iDK tl) := by
  intro pins s σ H R I h
  refine thn (hl pins s σ H _ I h) fun v s1 ⟨x, H1, I1, r1, q1⟩ => ?_
  obtain ⟨d, kvs, rfl, hq, q⟩ := q1
  cases (show v = Value.ref d from r1)
  obtain ⟨o, es, ep, g, x1, x2, y, hn, I2⟩ := I1.freeze hq
  refine keys_iter y g x1 x2 ?_
  refine ⟨s1.heap.objs.size, [s1.heap.objs.size], _, _, upd H1 d (.frz o (.dT kvs)), rfl, I2.kept (t' := s1.toks) fun b o e => Heap.get?_push_of_some _ e, turn_dk d _ o es ep kvs x2 hn, ⟨_, Heap.get?_push_size _ rfl, rfl, rfl⟩, fun b hb => ?_, q o⟩
  have e : b = s1.heap.objs.size := by simpa using hb
  subst e
  exact I2.fpOk (Nat.le_refl _) (I2.hok.fresh (Nat.le_refl _))
section
variable {X : Cx}
end
theorem comp_dk {d : Addr} {o : Obj} {kvs : TTab} {g : TG} {tt : TT} {te : TE} {fin : List V -> Hp -> Prop} {σ : St} {H : Hp} (S : St -> Prop) (Pv : Nat -> List V -> Hp -> Prop) (hσ : S σ) (h0 : Pv 0 [] H) (hz : kvs.length < sizeLine)
    (hl : ∀ i ys H, Pv i ys H -> H d = some (.frz o (.dT kvs)))
    (hs : ∀ (i : Nat) (b : Addr) (k : List Key) (v : V) (ys : List V) (σ : St) (H : Hp) (N : List V -> St -> Hp -> Prop), kvs[i]? = some (k, v) -> H b = some (.tup (k.map kV)) -> S σ -> Pv i ys H -> (∀ ys' σ' H', S σ' -> Pv (i + 1) ys' H' -> ys'.length <= ys.length + 1 -> N ys' σ' H') ->
      g (.ref b) σ H fun σ2 H2 => tt σ2 H2 fun b H3 => if b = true then te σ2 H3 fun y H4 => N (ys ++ [y]) σ2 H4 else N ys σ2 H3)
    (hd : ∀ ys H, Pv kvs.length ys H -> fin ys H) : ∃ W, CompW (ItDK d o kvs) g tt te fin W /\ ∃ m, W 0 m [] σ H := by
  refine ⟨fun i m ys σ H => m = kvs.length - i /\ i <= kvs.length /\ ys.length <= i /\ S σ /\ Pv i ys H, ?_, kvs.length, by simp, Nat.zero_le _, Nat.le_refl _, hσ, h0⟩
  rintro i m ys σ H ⟨rfl, hi, hy, hS, p⟩
  by_cases hlt : i < kvs.length
  · refine .inr ⟨⟨hl i ys H p, hlt⟩, by lia, fun x H' y => ?_⟩
    obtain ⟨rfl, b, k, v, rfl, ek, eb⟩ := y
    exact hs i b k v ys σ _ (fun ys' σ' H'' => ∃ m', m' < kvs.length - i /\ m' = kvs.length - (i + 1) /\ i + 1 <= kvs.length /\ ys'.length <= i + 1 /\ S σ' /\ Pv (i + 1) ys' H'') ek eb hS p (fun ys' σ' H'' a b c => ⟨_, by lia, rfl, hlt, by lia, a, b⟩)
  · have e : i = kvs.length := by lia
    subst e
    exact .inl ⟨⟨hl _ ys H p, Nat.le_refl _⟩, by lia, hd ys H p⟩
end L2
namespace L2
open PySem PySem.W PyProof.Rows
structure Ord (lt : Nat -> Nat -> Bool) : Prop where
  as : ∀ i j, lt i j = true -> lt j i = false
  tr : ∀ i j k, lt j i = false -> lt k j = false -> lt k i = false
theorem Ord.rf {lt : Nat -> Nat -> Bool} (o : Ord lt) (i : Nat) : lt i i = false := by
  cases h : lt i i with
  | false => rfl
  | true => have := o.as i i h; rw [h] at this; exact this
structure PB (N : Nat) (p : Array Nat) : Prop where
  perm : p.Perm (List.range N).toArray
theorem PB.size {N : Nat} {p : Array Nat} (h : PB N p) : p.size = N := by have := h.perm.size_eq; simpa using this
theorem PB.lt {N : Nat} {p : Array Nat} (h : PB N p) {i : Nat} (hi : i < N) : p.getD i 0 < N := by
  have hs : i < p.size := by rw [h.size]; exact hi
  have e : p.getD i 0 = p[i] := by simp [Array.getD, hs]
  rw [e]
  have hm : p[i] ∈ p := Array.getElem_mem hs
  have := h.perm.mem_iff.mp hm
  simpa using this
theorem PB.rev {N : Nat} {p : Array Nat} (h : PB N p) (i j : Nat) : PB N (kas_rev p i j) := ⟨(mirror_perm p i j _).trans h.perm⟩
theorem PB.bub {N : Nat} {p : Array Nat} (h : PB N p) (i j : Nat) : PB N (bubble p i j) := ⟨(bubble_perm p i j).trans h.perm⟩
theorem getD_of {xs ys : Array Nat} {i j : Nat} (h : xs[i]? = ys[j]?) : xs.getD i 0 = ys.getD j 0 := by
  rw [Array.getD_eq_getD_getElem?, Array.getD_eq_getD_getElem?, h]
theorem rev_at {N : Nat} {p : Array Nat} (h : PB N p) {i j : Nat} (hj : j <= N) (k : Nat) : (kas_rev p i j).getD k 0 = if i <= k /\ k < j then p.getD (i + j - 1 - k) 0 else p.getD k 0 := by
  have e := getElem?_mirror_all (xs := p) (i := i) (j := j) (by rw [h.size]; exact hj) k
  unfold kas_rev
  by_cases c : i <= k /\ k < j
  · rw [if_pos c] at e ⊢; exact getD_of e
  · rw [if_neg c] at e ⊢; exact getD_of e
theorem bub_at {N : Nat} {p : Array Nat} (h : PB N p) {k l : Nat} (hk : k < N) (hl : l <= k) (i : Nat) :
    (bubble p k (k - l)).getD i 0 = if i = l then p.getD k 0 else if l < i /\ i <= k then p.getD (i - 1) 0 else p.getD i 0 := by
  have e := getElem?_bubble (xs := p) (src := k) (by rw [h.size]; exact hk) (k - l) (by lia) i
  rw [show k - (k - l) = l by lia] at e
  by_cases c : i = l
  · rw [if_pos c] at e ⊢; exact getD_of e
  · rw [if_neg c] at e ⊢
    by_cases c2 : l < i /\ i <= k
    · rw [if_pos c2] at e ⊢; exact getD_of e
    · rw [if_neg c2] at e ⊢; exact getD_of e
section
variable {lt : Nat -> Nat -> Bool} {N : Nat}
def Up (lt : Nat -> Nat -> Bool) (p : Array Nat) (m : Nat) : Prop := ∀ i j, i <= j -> j < m -> lt (p.getD j 0) (p.getD i 0) = false
def Flat (lt : Nat -> Nat -> Bool) (p : Array Nat) (a b : Nat) : Prop := ∀ i j, a <= i -> i < b -> a <= j -> j < b -> lt (p.getD i 0) (p.getD j 0) = false
end
end L2
namespace L2
open PySem PySem.W PyProof.Rows
section
variable {prog : Program} {w : World} {A : Around} {E : Value -> Shared -> Prop} {s : Shared}
def Asks (prog : Program) (w : World) (s : Shared) (lt : Nat -> Nat -> Bool) (vs : List Value) : Prop :=
  ∀ (A : Around) (h' : Heap), (∀ b u, s.heap.get? b = some u -> h'.get? b = some u) -> 2 <= vs.length -> ∃ κ : SortKind, (∀ (E : Value -> Shared -> Prop) (Q : SortKind -> Shared -> Prop), Q κ { s with heap := h' } -> wpAny (model prog w) A (keyKind' vs.toArray) Q E { s with heap := h' }) /\
    ∀ (i j : Nat) (C : Bool -> Shared -> Prop), i < vs.length -> j < vs.length -> C (lt i j) { s with heap := h' } -> wpAny (model prog w) A (keyLt' κ (vs.getD i Value.none) (vs.getD j Value.none)) C (fun _ _ => False) { s with heap := h' }
def outOf (vs : List Value) (p : Array Nat) : List Value := p.toList.map fun i => vs.getD i Value.none
theorem sort_one {vs : List Value} (h : ¬ vs.length >= 2) : outOf vs (List.range vs.length).toArray = vs := by
  unfold outOf
  match vs with
  | [] => rfl
  | [v] => rfl
  | _ :: _ :: _ => simp at h
theorem zip_snd (vs : List Value) : (vs.toArray.zip vs.toArray).map (·.2) = vs.toArray := by
  apply Array.toList_inj.mp
  rw [Array.toList_map, Array.toList_zip]
  exact List.map_snd_zip (Nat.le_refl _)
end
end L2
namespace L2
open PySem PySem.W PyProof.Rows
theorem lex_as : ∀ (a b : List Int), HT.lexLt a b = true -> HT.lexLt b a = false
  | [], [], h => by cases h
  | [], _ :: _, _ => rfl
  | _ :: _, [], h => by cases h
  | x :: xs, y :: ys, h => by
    rw [HT.lexLt_cons] at h ⊢
    by_cases e : x = y
    · rw [if_pos e] at h; rw [if_pos e.symm]; exact lex_as xs ys h
    · rw [if_neg e] at h; rw [if_neg (Ne.symm e)]
      have := of_decide_eq_true h
      exact decide_eq_false (by lia)
theorem lex_tr : ∀ (a b c : List Int), HT.lexLt b a = false -> HT.lexLt c b = false -> HT.lexLt c a = false
  | [], [], c, _, h => h
  | [], _ :: _, [], _, h => by cases h
  | [], _ :: _, _ :: _, _, _ => rfl
  | _ :: _, [], _, h, _ => by cases h
  | x :: xs, y :: ys, [], _, h => by cases h
  | x :: xs, y :: ys, z :: zs, h1, h2 => by
    rw [HT.lexLt_cons] at h1 h2 ⊢
    by_cases e1 : y = x
    · rw [if_pos e1] at h1
      by_cases e2 : z = y
      · rw [if_pos e2] at h2
        rw [if_pos (e2.trans e1)]
        exact lex_tr xs ys zs h1 h2
      · rw [if_neg e2] at h2
        rw [if_neg (fun q => e2 (q.trans e1.symm))]
        have := of_decide_eq_false h2
        exact decide_eq_false (by lia)
    · rw [if_neg e1] at h1
      have g1 := of_decide_eq_false h1
      by_cases e2 : z = y
      · rw [if_neg (fun q => e1 (e2.symm.trans q))]
        exact decide_eq_false (by lia)
      · rw [if_neg e2] at h2
        have g2 := of_decide_eq_false h2
        rw [if_neg (by lia)]
        exact decide_eq_false (by lia)
theorem lex_ord (kss : List (List Int)) : Ord fun i j => HT.lexLt (kss.getD i []) (kss.getD j []) := ⟨fun _ _ h => lex_as _ _ h, fun _ _ _ h1 h2 => lex_tr _ _ _ h1 h2⟩
def lexZ (fin : Bool) : List Int -> List Int -> Bool
  | x :: xs, y :: ys => if x = y then lexZ fin xs ys else decide (x < y)
  | _, _ => fin
theorem lexZ_eq : ∀ (a b : List Int), lexZ (decide (a.length < b.length)) a b = HT.lexLt a b
  | [], [] => rfl
  | [], _ :: _ => by show decide _ = true; simp
  | _ :: _, [] => by show decide _ = false; simp
  | x :: xs, y :: ys => by
    rw [HT.lexLt_cons]
    show (if x = y then lexZ _ xs ys else decide (x < y)) = _
    have : decide ((x :: xs).length < (y :: ys).length) = decide (xs.length < ys.length) := by simp
    rw [this, lexZ_eq xs ys]
section
variable {prog : Program} {w : World} {A : Around} {E : Value -> Shared -> Prop} {s : Shared}
theorem ints_lex {fin : Bool} {Q : Bool -> Shared -> Prop} : ∀ {us : List Value} {ks : List Int} {ws : List Value} {ms : List Int} (i : Nat), IntsAre us ks -> IntsAre ws ms -> Q (lexZ fin ks ms) s -> KatLex prog w A true fin Q (us.zip ws) i s
  | _, _, _, _, _, .nil, _, q => kat_nil q
  | _, _, _, _, _, .cons _ _ _, .nil, q => kat_nil q
  | _, _, _, _, i, .cons (vs := us) (ns := ks) x t h1, .cons (vs := ws) (ns := ms) y u h2, q => by
    refine kat_cons (wpAny_eqBool_int (kat_go (fun e => kat_yes (ints_lex (i + 1) h1 h2 ?_)) fun e => kat_no ?_))
    · have : x = y := by simpa using e
      have z : lexZ fin (x :: ks) (y :: ms) = lexZ fin ks ms := by show (if x = y then _ else _) = _; rw [if_pos this]
      rw [z] at q; exact q
    · have : ¬ x = y := by simpa using e
      have z : lexZ fin (x :: ks) (y :: ms) = decide (x < y) := by show (if x = y then _ else _) = _; rw [if_neg this]
      rw [z] at q
      cases h0 : (true && i == 0) with
      | true => exact oneLt_int q
      | false => exact kat_one _ _ (lt_int q)
def TupI (h : Heap) (v : Value) (ks : List Int) : Prop := ∃ a o xs n, v = .ref a /\ h.get? a = some o /\ o.cls = .type "tuple" /\ o.data = .seq xs n /\ IntsAre xs.toList ks
theorem TupI.kept {h h' : Heap} {v : Value} {ks : List Int} (x : TupI h v ks) (k : ∀ b u, h.get? b = some u -> h'.get? b = some u) : TupI h' v ks := let ⟨a, o, xs, n, e, g, r⟩ := x; ⟨a, o, xs, n, e, k _ _ g, r⟩
theorem ints_first {us : List Value} {x : Int} {ks : List Int} (h : IntsAre us (x :: ks)) : ∃ t, us[0]? = some (.int x t) := by
  cases h with
  | cons _ t _ => exact ⟨t, rfl⟩
theorem tups_firsts {h : Heap} : ∀ {vs : List Value} {kss : List (List Int)}, Paired (TupI h) vs kss -> (∀ ks ∈ kss, ks ≠ []) -> ∃ fs, KatTups h vs fs /\ fs.length = vs.length /\ ∀ f ∈ fs, ∃ x t, f = .int x t
  | _, _, .nil, _ => ⟨[], .nil, rfl, fun f hf => nomatch hf⟩
  | _, _, .cons (b := ks) r t, hne => by
    obtain ⟨fs, k, l, a⟩ := tups_firsts t fun ks hk => hne ks (List.mem_cons_of_mem _ hk)
    obtain ⟨ad, o, xs, n, rfl, g, hc, hd, hi⟩ := r
    cases ks with
    | nil => exact absurd rfl (hne _ (List.mem_cons_self ..))
    | cons x ks =>
      obtain ⟨tk, e⟩ := ints_first hi
      refine ⟨.int x tk :: fs, .cons g hc hd (by rw [Array.getElem?_toList] at e; exact e) k, by simp [l], fun f hf => ?_⟩
      rcases List.mem_cons.mp hf with rfl | hf
      · exact ⟨x, tk, rfl⟩
      · exact a f hf
theorem asks_tups {vs : List Value} {kss : List (List Int)} (h : Paired (TupI s.heap) vs kss) (hne : ∀ ks ∈ kss, ks ≠ []) : Asks prog w s (fun i j => HT.lexLt (kss.getD i []) (kss.getD j [])) vs := by
  intro A h' keep two
  have h2 : Paired (TupI h') vs kss := Paired.mapP h fun _ _ x => x.kept keep
  refine ⟨tuples' true, fun E Q q => ?_, fun i j C hi hj q => ?_⟩
  · obtain ⟨fs, k, l, a⟩ := tups_firsts h2 hne
    have e : (Value.type "int" != Value.type "tuple") = true := by decide
    refine kat_kind (T := .type "int") k (by lia) (fun f hf => ?_) (by decide) (by rw [e]; exact q)
    obtain ⟨x, t, rfl⟩ := a f hf
    exact .now
  · have gi : ∀ i, i < vs.length -> ∃ v ks, vs.getD i Value.none = v /\ kss.getD i [] = ks /\ TupI h' v ks := fun i hi => by
      obtain ⟨ks, e, r⟩ := Paired.at h2 (i := i) (a := vs[i]) (by simp [hi])
      exact ⟨vs[i], ks, by simp [hi], by rw [List.getD_eq_getElem?_getD, e]; rfl, r⟩
    obtain ⟨v, ks, ev, ek, a, o, xs, n, rfl, g, _, hd, hI⟩ := gi i hi
    obtain ⟨u, ms, eu, em, b, o2, ys, n2, rfl, g2, _, hd2, hI2⟩ := gi j hj
    rw [ev, eu]
    refine kat_lt (s := { s with heap := h' }) g hd g2 hd2 (ints_lex 0 hI hI2 ?_)
    have l1 : xs.size = ks.length := by have := hI.length; simpa using this
    have l2 : ys.size = ms.length := by have := hI2.length; simpa using this
    rw [l1, l2, lexZ_eq]
    have q' : C (HT.lexLt (kss.getD i []) (kss.getD j [])) { s with heap := h' } := q
    rw [ek, em] at q'
    exact q'
end
def IntsAt (H : Hp) (v : V) (ks : List Int) : Prop := ∃ a, v = .ref a /\ H a = some (.tup (ks.map V.int))
theorem IntsAt.same {H H' : Hp} {v : V} {ks : List Int} (h : IntsAt H v ks) (e : Same H H') : IntsAt H' v ks := let ⟨a, h1, h2⟩ := h; ⟨a, h1, e _ _ h2⟩
def LexLe (a b : List Int) : Prop := HT.lexLt b a = false
section
variable {X : Cx}
theorem paired_map {α β γ : Type} {F : α -> β -> Prop} {f : γ -> α} {g : γ -> β} : ∀ {l : List γ}, (∀ c ∈ l, F (f c) (g c)) -> Paired F (l.map f) (l.map g)
  | [], _ => .nil
  | c :: l, h => .cons (h c (List.mem_cons_self ..)) (paired_map fun d hd => h d (List.mem_cons_of_mem _ hd))
theorem range_getD {α : Type} (l : List α) (d : α) : (List.range l.length).map (fun i => l.getD i d) = l := by
  apply List.ext_getElem
  · simp
  · intro i h1 h2
    simp at h1
    simp [h1]
theorem PB.list {N : Nat} {p : Array Nat} (h : PB N p) : p.toList.Perm (List.range N) := by
  have := Array.perm_iff_toList_perm.mp h.perm
  simpa using this
end
end L2
namespace L2
open PySem PySem.Spec PyProof.Rows
theorem for_seq {k : Kd} {K : PySem.W.Frag} {a : Addr} {xs : List V} {g : TG} {tb : TS} {D : Ends} {σ : St} {H : Hp} (Pv : Nat -> St -> Hp -> Prop) (h0 : Pv 0 σ H) (hl : ∀ i σ H, i <= xs.length -> Pv i σ H -> SqK k K H a xs)
    (hs : ∀ i x σ H, xs[i]? = some x -> Pv i σ H -> g x σ H fun σ2 H2 => tb { D with nx := Pv (i + 1), ct := Pv (i + 1), bk := D.nx } σ2 H2) (hd : ∀ σ H, Pv xs.length σ H -> D.nx σ H) :
    ∃ W : Nat -> Nat -> St -> Hp -> Prop, (∃ m, W 0 m σ H) /\ ∀ i m σ H, W i m σ H ->
      ((ItK k K a).stop i H /\ D.nx σ H) \/ ((ItK k K a).go i H /\ ∃ N : St -> Hp -> Prop, (∀ σ' H', N σ' H' -> ∃ m', m' < m /\ W (i + 1) m' σ' H') /\ ∀ x H', (ItK k K a).yld i H x H' -> g x σ H' fun σ2 H2 => tb { D with nx := N, ct := N, bk := D.nx } σ2 H2) := by
  cases k with
  | l => exact for_list Pv h0 hl hs hd
  | t => exact for_tup Pv h0 hl hs hd
section
variable {X : Cx}
end
section
open PySem.SeqAt
open PySem.AutoSeq1 (wpAny_loadPart')
open PySem.MeetsSeq PySem.MeetsSeq2 PySem.MeetsSeq3
def GeAt (A : Around) (s : Shared) (v u : Value) (r : Bool) : Prop := ∀ (prog : Program) (w : World) (E : Value -> Shared -> Prop) (Q : Value -> Shared -> Prop), Q (.bool r) s -> wpAny (model prog w) A (richCompare .GtE v u) Q E s
inductive CmpG (A : Around) (s : Shared) (z : Bool) : List Value -> List Value -> Bool -> Prop
  | nilL (ws : List Value) : CmpG A s z [] ws z
  | nilR (v : Value) (vs : List Value) : CmpG A s z (v :: vs) [] z
  | eq {v u : Value} {vs ws : List Value} {b : Bool} (e : EqAt A s v u true) (t : CmpG A s z vs ws b) : CmpG A s z (v :: vs) (u :: ws) b
  | ne {v u : Value} {vs ws : List Value} {r : Bool} (e : EqAt A s v u false) (t : GeAt A s v u r) : CmpG A s z (v :: vs) (u :: ws) r
theorem tuple_geL (l b : Addr) (items items2 : Array Value) (n n2 : Nat) (dd dd2 : Option Addr) (sl sl2 : Array (Option Value)) (out : Bool) :
    Meets (Builtin.«tuple.__ge__» ⟨[.ref l, .ref b], []⟩)
      (fun A R s => s.heap.get? l = some { cls := .type "tuple", dict := dd, data := .seq items n, slots := sl } /\ s.heap.get? b = some { cls := .type "tuple", dict := dd2, data := .seq items2 n2, slots := sl2 } /\
        CmpG A.in1 s (decide (items2.size <= items.size)) items.toList items2.toList out /\ R (.ok (.ret (.bool out))) s) :=
  .of_wp fun prog w A R s h => by
    obtain ⟨hp, g, d, tk, os⟩ := s
    obtain ⟨hl, hb, hc, h⟩ := h
    have f2 := AutoSeq1.sub_tuple_tuple
    wp_walk using wpAny_loadPart' hl, wpAny_loadPart' hb, wpAny_forIn_list _ (fun rest b s' => b.1 = none /\ s' = ⟨hp, g, d, tk, os⟩ /\ ∃ (vs ws : List Value), rest = vs.zip ws /\ CmpG A.in1 ⟨hp, g, d, tk, os⟩ (decide (items2.size <= items.size)) vs ws out) _
    case turn =>
      rintro ⟨y, x⟩ rest b s' ⟨hb', rfl, vs, ws, hz, hcl⟩
      cases hcl with
      | nilL ws => rw [List.zip_nil_left] at hz; cases hz
      | nilR v vs => rw [List.zip_nil_right] at hz; cases hz
      | eq e t =>
        rw [List.zip_cons_cons] at hz
        injection hz with hyx hrest
        injection hyx with hy hx
        subst hy hx
        refine wpAny_bind (e prog w _ _ ?_)
        wp_walk
        exact ⟨rfl, rfl, _, _, hrest, t⟩
      | ne e t =>
        rw [List.zip_cons_cons] at hz
        injection hz with hyx hrest
        injection hyx with hy hx
        subst hy hx
        refine wpAny_bind (e prog w _ _ ?_)
        have hri := t prog w
        wp_walk using hri
        exact ⟨_, rfl, h⟩
    case fin =>
      rintro ⟨b1, b2⟩ s' ⟨hb', rfl, vs, ws, hz, hcl⟩
      simp only at hb'
      subst hb'
      have ho : out = decide (items2.size <= items.size) := by
        cases hcl with
        | nilL ws => rfl
        | nilR v vs => rfl
        | eq e t => rw [List.zip_cons_cons] at hz; cases hz
        | ne e t => rw [List.zip_cons_cons] at hz; cases hz
      rw [ho] at h
      wp_walk
      exact ⟨_, rfl, by simpa [Builtin.Tuple.tupleCompareSizes] using h⟩
    case h =>
      exact ⟨rfl, rfl, items.toList, items2.toList, rfl, hc⟩
theorem GeAt.tuples {A : Around} {s : Shared} {l b : Addr} {its its2 : List Value} {out : Bool} (hl : s.heap.IsTuple l its.toArray) (hb : s.heap.IsTuple b its2.toArray) (hu : A.units < cLine) (hc : CmpG A.in1 s (decide (its2.length <= its.length)) its its2 out) : GeAt A s (.ref l) (.ref b) out := by
  intro prog w E Q h
  obtain ⟨⟨cls, dd, data, sl⟩, ho, hc1, n, hd⟩ := id hl
  obtain ⟨⟨cls2, dd2, data2, sl2⟩, ho2, hc2, n2, hd2⟩ := id hb
  simp only at hc1 hd hc2 hd2
  subst hc1 hd hc2 hd2
  exact richCompare_meets_room (op := .GtE) ⟨_, ho, rfl⟩ ⟨_, ho2, rfl⟩ PySem.F.slot_tuple_ge PySem.F.entry_tuple_ge (PySem.F.args_tuple_ge_2 _ _) (tuple_geL l b its.toArray its2.toArray n n2 dd dd2 sl sl2 out)
    ⟨ho, ho2, by simpa using hc, show Value.bool out ≠ Value.notImplemented /\ Q (.bool out) s from ⟨(fun x => nomatch x), h⟩⟩ hu
theorem GeAt.int_int {A : Around} {s : Shared} (a : Int) (t : Tok) (c : Int) (u : Tok) : GeAt A s (.int a t) (.int c u) (decide (c <= a)) := fun prog w E Q h => (ge_int h : wpAny (model prog w) A (compareOp .GtE (.int a t) (.int c u)) Q E s)
end
def lexGe (z : Bool) : List Int -> List Int -> Bool
  | x :: xs, y :: ys => if x = y then lexGe z xs ys else decide (y <= x)
  | _, _ => z
theorem cmpg_ints {A : Around} {s : Shared} {z : Bool} : ∀ {ns ms : List Int} {us ws : List Value}, Vals (ns.map V.int) us -> Vals (ms.map V.int) ws -> CmpG A s z us ws (lexGe z ns ms)
  | [], _, _, _, r, _ => by rw [List.map_nil] at r; cases r; exact .nilL _
  | x :: ns, [], _, _, r, q => by
    rw [List.map_nil] at q; cases q
    rw [List.map_cons] at r
    cases r with
    | cons _ _ => exact .nilR _ _
  | x :: ns, y :: ms, _, _, r, q => by
    rw [List.map_cons] at r q
    cases r with
    | cons rx rt =>
      cases q with
      | cons qy qt =>
        obtain ⟨t, rfl⟩ := rx
        obtain ⟨u, rfl⟩ := qy
        by_cases e : x = y
        · have z1 : lexGe z (x :: ns) (y :: ms) = lexGe z ns ms := by show (if x = y then _ else _) = _; rw [if_pos e]
          rw [z1]
          refine .eq ?_ (cmpg_ints rt qt)
          have := SeqAt.EqAt.int_int (A := A) (s := s) x t y u
          rw [beq_iff_eq.mpr e] at this
          exact this
        · have z1 : lexGe z (x :: ns) (y :: ms) = decide (y <= x) := by show (if x = y then _ else _) = _; rw [if_neg e]
          rw [z1]
          refine .ne ?_ (GeAt.int_int x t y u)
          have := SeqAt.EqAt.int_int (A := A) (s := s) x t y u
          rw [beq_eq_false_iff_ne.mpr e] at this
          exact this
section
variable {X : Cx}
def rGeT (K : PySem.W.Frag) : R2 := fun x y H Q => ∃ a b ns ms, x = .ref a /\ y = .ref b /\ SqT K H a (ns.map V.int) /\ SqT K H b (ms.map V.int) /\ Q (.bl (lexGe (decide (ms.length <= ns.length)) ns ms)) H
theorem op_geT (hu : X.A.units + 66 < cLine) : OpR X (compareOp .GtE) (rGeT X.K) := by
  intro pins s σ H x y v u Q I rx ry h
  obtain ⟨a, b, ns, ms, rfl, rfl, ha, hb, q⟩ := h
  cases (show v = Value.ref a from rx)
  cases (show u = Value.ref b from ry)
  obtain ⟨its, r1, p1, _⟩ := I.tuple ha
  obtain ⟨its2, r2, p2, _⟩ := I.tuple hb
  have l1 : its.length = ns.length := by have := r1.length; rw [List.length_map] at this; lia
  have l2 : its2.length = ms.length := by have := r2.length; rw [List.length_map] at this; lia
  refine GeAt.tuples p1 p2 (by lia) ?_ X.prog X.w X.xe _ ⟨.bl (lexGe (decide (ms.length <= ns.length)) ns ms), H, I, rfl, q⟩
  rw [l1, l2]
  exact cmpg_ints r1 r2
end
section
variable {prog : Program} {w : World} {A : Around} {E : Value -> Shared -> Prop} {s : Shared} {it l : Addr} {its : Array Value}
end
section
variable {X : Cx}
end
section
variable {prog : Program} {w : World} {A : Around} {E : Value -> Shared -> Prop} {s : Shared} {a : Addr} {led : Bool} {ns : List Int}
end
section
variable {prog : Program} {w : World} {A : Around} {R : Result -> Shared -> Prop} {I : Addr} {fp wr : List Addr} {G : Array GenState -> Array GenState -> Prop} {n : Nat} {P : Nat -> Value -> Prop} {St : Nat -> Shared -> Prop}
end
section
variable {prog : Program} {w : World} {A : Around} {E : Value -> Shared -> Prop} {s : Shared}
set_option maxHeartbeats 8000000 in
end
section
variable {prog : Program} {w : World} {A : Around} {E : Value -> Shared -> Prop} {s : Shared} {it a : Addr} {o : Obj} {es : Array (Int × Value)} {ep i : Nat} {t : SetTable} {slot : Nat}
end
section
variable {prog : Program} {w : World} {A : Around} {E : Value -> Shared -> Prop} {s : Shared} {it a : Addr} {o : Obj} {es : Array (Int × Value)} {ep i : Nat} {t : SetTable} {slot : Nat}
end
section
variable {prog : Program} {w : World} {A : Around} {E : Value -> Shared -> Prop} {s : Shared} {a : Addr} {o : Obj} {es : Array (Int × Value)} {ep : Nat} {t : SetTable}
end
section
variable {prog : Program} {w : World} {A : Around} {E : Value -> Shared -> Prop} {s : Shared} {a : Addr}
end
section
variable {X : Cx}
end
section
variable {prog : Program} {w : World} {A : Around} {E : Value -> Shared -> Prop} {s : Shared}
end
section
variable {X : Cx}
end
end L2
namespace L2
open PySem PySem.W PyProof.Rows
def gallop' : Bool -> Keyed -> Array Keyed -> Nat -> Nat -> Nat -> StateT SortSt Sem (Option Nat) := sortPriv% PySem.Builtin.gallop
section
variable {prog : Program} {w : World} {A : Around} {E : Value -> Shared -> Prop} {s : Shared} {κ : SortKind} {it : Array Keyed} {lt : Nat -> Nat -> Bool} {N : Nat}
def Cmp (prog : Program) (w : World) (A : Around) (κ : SortKind) (it : Array Keyed) (lt : Nat -> Nat -> Bool) (N : Nat) (s : Shared) : Prop := ∀ i j C, i < N -> j < N -> C (lt i j) s -> kas_cmp prog w A κ it i j C s
theorem lt_of {i j : Nat} {st : SortSt} {Q : Option Bool -> SortSt -> Prop} (c : Cmp prog w A κ it lt N s) (hk : kindOf st = κ) (hi : i < N) (hj : j < N) (h : Q (some (lt i j)) st) : wpS (model prog w) A E s (lt' (kas_item it i) (kas_item it j)) Q st := by
  rw [lt'_eq]
  refine wpS_bind (wpS_get ?_)
  rw [hk]
  refine wpS_bind (wpS_lift (wpAny_attempt (wpAny_mono (c i j (fun b s' => s' = s /\ b = lt i j) hi hj ⟨rfl, rfl⟩) (fun b s' z => ?_) fun _ _ hF => hF.elim)))
  obtain ⟨rfl, rfl⟩ := z
  exact ⟨rfl, wpS_pure h⟩
theorem elem_of {q : Array Nat} {i : Nat} {st : SortSt} {Q : Keyed -> SortSt -> Prop} (hi : i < q.size) (h : Q (kas_item it (q.getD i 0)) st) : wpS (model prog w) A E s (elem' (q.map (kas_item it)) i) Q st := by
  rw [elem'_eq]
  have e : (q.map (kas_item it))[i]? = some (kas_item it (q.getD i 0)) := by simp [Array.getD, hi]
  rw [e]
  exact wpS_pure h
def Bey (lt : Nat -> Nat -> Bool) (left : Bool) (k x : Nat) : Bool := if left = true then lt x k else !lt k x
theorem bin_ok {B : Nat -> Bool} {n lo hi : Nat} {st : SortSt} {α : Type} {Q : α -> SortSt -> Prop} {f : Nat -> (Option (Option Nat) × Nat × Nat) -> StateT SortSt Sem (ForInStep (Option (Option Nat) × Nat × Nat))} {g : (Option (Option Nat) × Nat × Nat) -> StateT SortSt Sem α}
    (mono : ∀ i j, i <= j -> j < n -> B j = true -> B i = true)
    (hd : ∀ x lo hi Q', hi <= lo -> Q' (.done (none, lo, hi)) st -> wpS (model prog w) A E s (f x (none, lo, hi)) Q' st)
    (hf : ∀ x lo hi Q', lo < hi -> hi <= n -> (B (lo + (hi - lo) / 2) = true -> Q' (.yield (none, lo + (hi - lo) / 2 + 1, hi)) st) -> (B (lo + (hi - lo) / 2) = false -> Q' (.yield (none, lo, lo + (hi - lo) / 2)) st) -> wpS (model prog w) A E s (f x (none, lo, hi)) Q' st)
    (l1 : lo <= hi) (l2 : hi <= n) (b1 : ∀ i, i < lo -> B i = true) (b2 : ∀ i, hi <= i -> i < n -> B i = false)
    (hg : ∀ lo r, r <= n -> (∀ i, i < r -> B i = true) -> (∀ i, r <= i -> i < n -> B i = false) -> wpS (model prog w) A E s (g (none, lo, r)) Q st) :
    wpS (model prog w) A E s (forIn [:n] ((none, lo, hi) : Option (Option Nat) × Nat × Nat) f >>= g) Q st := by
  refine wpS_bind (wpS_mono (wpS_forRange (I := fun x c st' => st' = st /\ ∃ lo hi, c = (none, lo, hi) /\ lo <= hi /\ hi <= n /\ hi - lo + x <= n /\ (∀ i, i < lo -> B i = true) /\ (∀ i, hi <= i -> i < n -> B i = false))
    (Q := fun c st' => st' = st /\ ∃ lo r, c = (none, lo, r) /\ r <= n /\ (∀ i, i < r -> B i = true) /\ (∀ i, r <= i -> i < n -> B i = false)) ?_ ?_ ⟨rfl, lo, hi, rfl, l1, l2, by omega, b1, b2⟩) ?_)
  · rintro x c st' _ hx ⟨rfl, lo, hi, rfl, l1, l2, l3, b1, b2⟩
    by_cases e : lo < hi
    · refine hf x lo hi _ e l2 (fun z => ⟨rfl, _, _, rfl, by omega, l2, by omega, fun i hi' => mono i _ (by omega) (by omega) z, b2⟩) (fun z => ⟨rfl, _, _, rfl, by omega, by omega, by omega, b1, fun i h1 h2 => ?_⟩)
      cases hB : B i with
      | false => rfl
      | true => rw [mono _ i h1 h2 hB] at z; cases z
    · refine hd x lo hi _ (by omega) ⟨rfl, _, _, rfl, l2, fun i hi' => b1 i (by omega), b2⟩
  · rintro c st' ⟨rfl, lo, hi, rfl, l1, l2, l3, b1, b2⟩
    have : max 0 n = n := by omega
    rw [this] at l3
    exact ⟨rfl, lo, hi, rfl, l2, fun i hi' => b1 i (by omega), b2⟩
  · rintro c st' ⟨rfl, lo, r, rfl, r1, r2, r3⟩
    exact hg lo r r1 r2 r3
theorem gallop_ok {left : Bool} {k : Nat} {q : Array Nat} {base n hint : Nat} {st : SortSt} {Q : Option Nat -> SortSt -> Prop} (c : Cmp prog w A κ it lt N s) (hk : kindOf st = κ) (kN : k < N) (qN : ∀ i, i < q.size -> q.getD i 0 < N) (hb : base + n <= q.size) (hh : hint < n)
    (mono : ∀ i j, i <= j -> j < n -> Bey lt left k (q.getD (base + j) 0) = true -> Bey lt left k (q.getD (base + i) 0) = true)
    (h : ∀ r, r <= n -> (∀ i, i < r -> Bey lt left k (q.getD (base + i) 0) = true) -> (∀ i, r <= i -> i < n -> Bey lt left k (q.getD (base + i) 0) = false) -> Q (some r) st) :
    wpS (model prog w) A E s (gallop' left (kas_item it k) (q.map (kas_item it)) base n hint) Q st := by
  generalize hB : (fun i => Bey lt left k (q.getD (base + i) 0)) = B
  have hB' : ∀ i, Bey lt left k (q.getD (base + i) 0) = B i := fun i => by rw [<- hB]
  simp only [hB'] at mono h
  have bey : ∀ (i : Nat) (Q' : Option Bool -> SortSt -> Prop), i < n -> Q' (some (B i)) st -> wpS (model prog w) A E s (elem' (q.map (kas_item it)) (base + i) >>= fun x => if left = true then lt' x (kas_item it k) else lt' (kas_item it k) x >>= fun r => pure (r.map (!·))) Q' st := by
    intro i Q' hi hq
    rw [<- hB'] at hq
    refine wpS_bind (elem_of (by omega) ?_)
    unfold Bey at hq
    cases left with
    | true =>
      rw [if_pos rfl] at hq ⊢
      exact lt_of c hk (qN _ (by omega)) kN hq
    | false =>
      rw [if_neg (by decide)] at hq ⊢
      exact wpS_bind (lt_of c hk kN (qN _ (by omega)) (wpS_pure hq))
  refine wpS_bind (bey hint _ hh ?_)
  cases b0 : B hint with
  | true =>
    dsimp only
    rw [if_pos rfl]
    refine wpS_bind (wpS_mono (wpS_forRange (I := fun x r st' => st' = st /\ ∃ lo of, r = (none, lo, of) /\ lo < of /\ x < of /\ hint + lo < n /\ B (hint + lo) = true)
      (Q := fun r st' => st' = st /\ ∃ lo of, r = (none, lo, of) /\ lo < of /\ hint + lo < n /\ B (hint + lo) = true /\ (n <= hint + of \/ (hint + of < n /\ B (hint + of) = false))) ?_ ?_ ⟨rfl, 0, 1, rfl, by omega, by omega, by omega, b0⟩) ?_)
    · rintro x r st' _ hx ⟨rfl, lo, of, rfl, l1, l2, l3, l4⟩
      dsimp only
      by_cases e : of >= n - hint
      · rw [if_pos e]
        exact wpS_pure ⟨rfl, lo, of, rfl, l1, l3, l4, .inl (by omega)⟩
      · rw [if_neg e]
        refine wpS_bind (bey (hint + of) _ (by omega) ?_)
        cases b1 : B (hint + of) with
        | true => exact wpS_pure ⟨rfl, of, 2 * of + 1, rfl, by omega, by omega, by omega, b1⟩
        | false => exact wpS_pure ⟨rfl, lo, of, rfl, l1, l3, l4, .inr ⟨by omega, b1⟩⟩
    · rintro r st' ⟨rfl, lo, of, rfl, l1, l2, l3, l4⟩
      exact ⟨rfl, lo, of, rfl, l1, l3, l4, .inl (by omega)⟩
    · rintro r st' ⟨rfl, lo, of, rfl, l1, l3, l4, l5⟩
      dsimp only
      refine bin_ok (B := B) mono ?_ ?_ (by omega) (by omega) (fun i hi => mono i _ (by omega) l3 l4) (fun i h1 h2 => ?_) ?_
      · intro x lo hi Q' e hq
        dsimp only
        rw [if_pos e]
        exact wpS_pure hq
      · intro x lo hi Q' e e2 hq1 hq2
        dsimp only
        rw [if_neg (by omega)]
        refine wpS_bind (bey _ _ (by omega) ?_)
        cases b2 : B (lo + (hi - lo) / 2) with
        | true => exact wpS_pure (hq1 b2)
        | false => exact wpS_pure (hq2 b2)
      · rcases l5 with z | ⟨z, z2⟩
        · omega
        · cases hBi : B i with
          | false => rfl
          | true => rw [mono (hint + of) i (by omega) h2 hBi] at z2; cases z2
      · intro lo r r1 r2 r3
        exact wpS_pure (h r r1 r2 r3)
  | false =>
    dsimp only
    rw [if_neg (by decide)]
    refine wpS_bind (wpS_mono (wpS_forRange (I := fun x r st' => st' = st /\ ∃ lo of, r = (none, lo, of) /\ lo < of /\ x < of /\ lo <= hint /\ B (hint - lo) = false)
      (Q := fun r st' => st' = st /\ ∃ lo of, r = (none, lo, of) /\ lo < of /\ lo <= hint /\ B (hint - lo) = false /\ (hint < of \/ (of <= hint /\ B (hint - of) = true))) ?_ ?_ ⟨rfl, 0, 1, rfl, by omega, by omega, by omega, b0⟩) ?_)
    · rintro x r st' _ hx ⟨rfl, lo, of, rfl, l1, l2, l3, l4⟩
      dsimp only
      by_cases e : of >= hint + 1
      · rw [if_pos e]
        exact wpS_pure ⟨rfl, lo, of, rfl, l1, l3, l4, .inl (by omega)⟩
      · rw [if_neg e]
        refine wpS_bind (bey (hint - of) _ (by omega) ?_)
        cases b1 : B (hint - of) with
        | true => exact wpS_pure ⟨rfl, lo, of, rfl, l1, l3, l4, .inr ⟨by omega, b1⟩⟩
        | false => exact wpS_pure ⟨rfl, of, 2 * of + 1, rfl, by omega, by omega, by omega, b1⟩
    · rintro r st' ⟨rfl, lo, of, rfl, l1, l2, l3, l4⟩
      exact ⟨rfl, lo, of, rfl, l1, l3, l4, .inl (by omega)⟩
    · rintro r st' ⟨rfl, lo, of, rfl, l1, l3, l4, l5⟩
      dsimp only
      refine bin_ok (B := B) mono ?_ ?_ (by omega) (by omega) (fun i hi => ?_) (fun i h1 h2 => ?_) ?_
      · intro x lo hi Q' e hq
        dsimp only
        rw [if_pos e]
        exact wpS_pure hq
      · intro x lo hi Q' e e2 hq1 hq2
        dsimp only
        rw [if_neg (by omega)]
        refine wpS_bind (bey _ _ (by omega) ?_)
        cases b2 : B (lo + (hi - lo) / 2) with
        | true => exact wpS_pure (hq1 b2)
        | false => exact wpS_pure (hq2 b2)
      · rcases l5 with z | ⟨z, z2⟩
        · omega
        · exact mono i (hint - of) (by omega) (by omega) z2
      · cases hBi : B i with
        | false => rfl
        | true => rw [mono (hint - lo) i (by omega) h2 hBi] at l4; cases l4
      · intro lo r r1 r2 r3
        exact wpS_pure (h r r1 r2 r3)
end
end L2
namespace L2
open PySem PySem.W PyProof.Rows
def mergeLo' : Array Keyed -> Array Keyed -> StateT SortSt Sem (Array Keyed) := sortPriv% PySem.Builtin.mergeLo
def mergeHi' : Array Keyed -> Array Keyed -> StateT SortSt Sem (Array Keyed) := sortPriv% PySem.Builtin.mergeHi
def Gs (st st' : SortSt) : Prop := kindOf st' = kindOf st /\ arrOf st' = arrOf st /\ pendingOf st' = pendingOf st /\ failedOf st' = failedOf st
section
variable {lt : Nat -> Nat -> Bool}
abbrev Le (lt : Nat -> Nat -> Bool) (x y : Nat) : Prop := lt y x = false
structure MI (lt : Nat -> Nat -> Bool) (La Lb out : List Nat) (ia ib : Nat) : Prop where
  p : (out ++ (La.drop ia ++ Lb.drop ib)).Perm (La ++ Lb)
  s : out.Pairwise (Le lt)
  c : ∀ x ∈ out, ∀ y ∈ La.drop ia ++ Lb.drop ib, Le lt x y
theorem MI.as {La Lb out : List Nat} {ia ib : Nat} (m : MI lt La Lb out ia ib) (sa : La.Pairwise (Le lt)) (k : Nat) (h : ∀ x ∈ (La.drop ia).take k, ∀ y ∈ Lb.drop ib, Le lt x y) : MI lt La Lb (out ++ (La.drop ia).take k) (ia + k) ib := by
  have e : La.drop (ia + k) = (La.drop ia).drop k := by rw [List.drop_drop]
  have t : (La.drop ia).take k ++ (La.drop ia).drop k = La.drop ia := List.take_append_drop _ _
  have sd : ((La.drop ia).take k ++ (La.drop ia).drop k).Pairwise (Le lt) := by rw [t]; exact sa.sublist (List.drop_sublist _ _)
  obtain ⟨d1, d2, d3⟩ := List.pairwise_append.mp sd
  refine ⟨?_, List.pairwise_append.mpr ⟨m.s, d1, fun x hx y hy => m.c x hx y (List.mem_append_left _ (List.mem_of_mem_take hy))⟩, fun x hx y hy => ?_⟩
  · have := m.p
    rw [<- t] at this
    rw [e]
    simpa [List.append_assoc] using this
  · rw [e] at hy
    rcases List.mem_append.mp hx with hx | hx
    · refine m.c x hx y ?_
      rcases List.mem_append.mp hy with z | z
      · exact List.mem_append_left _ (List.mem_of_mem_drop z)
      · exact List.mem_append_right _ z
    · rcases List.mem_append.mp hy with z | z
      · exact d3 x hx y z
      · exact h x hx y z
theorem MI.bs {La Lb out : List Nat} {ia ib : Nat} (m : MI lt La Lb out ia ib) (sb : Lb.Pairwise (Le lt)) (k : Nat) (h : ∀ x ∈ (Lb.drop ib).take k, ∀ y ∈ La.drop ia, Le lt x y) : MI lt La Lb (out ++ (Lb.drop ib).take k) ia (ib + k) := by
  have e : Lb.drop (ib + k) = (Lb.drop ib).drop k := by rw [List.drop_drop]
  have t : (Lb.drop ib).take k ++ (Lb.drop ib).drop k = Lb.drop ib := List.take_append_drop _ _
  have sd : ((Lb.drop ib).take k ++ (Lb.drop ib).drop k).Pairwise (Le lt) := by rw [t]; exact sb.sublist (List.drop_sublist _ _)
  obtain ⟨d1, d2, d3⟩ := List.pairwise_append.mp sd
  refine ⟨?_, List.pairwise_append.mpr ⟨m.s, d1, fun x hx y hy => m.c x hx y (List.mem_append_right _ (List.mem_of_mem_take hy))⟩, fun x hx y hy => ?_⟩
  · have := m.p
    rw [<- t] at this
    rw [e]
    refine List.Perm.trans ?_ this
    rw [List.append_assoc]
    refine List.Perm.append_left _ ?_
    rw [<- List.append_assoc, <- List.append_assoc]
    exact List.Perm.append_right _ List.perm_append_comm
  · rw [e] at hy
    rcases List.mem_append.mp hx with hx | hx
    · refine m.c x hx y ?_
      rcases List.mem_append.mp hy with z | z
      · exact List.mem_append_left _ z
      · exact List.mem_append_right _ (List.mem_of_mem_drop z)
    · rcases List.mem_append.mp hy with z | z
      · exact h x hx y z
      · exact d3 x hx y z
def Told (lt : Nat -> Nat -> Bool) (it : Array Keyed) (La Lb : List Nat) (res : Array Keyed) : Prop := ∃ L : List Nat, res.toList = L.map (kas_item it) /\ L.Perm (La ++ Lb) /\ L.Pairwise (Le lt)
theorem MI.fin {La Lb out : List Nat} {ia ib : Nat} {it : Array Keyed} {o : Array Keyed} (m : MI lt La Lb out ia ib) (ho : o.toList = out.map (kas_item it)) (sa : La.Pairwise (Le lt)) (sb : Lb.Pairwise (Le lt)) (h : La.drop ia = [] \/ Lb.drop ib = []) :
    Told lt it La Lb (o ++ (La.map (kas_item it)).toArray.extract ia (La.map (kas_item it)).toArray.size ++ (Lb.map (kas_item it)).toArray.extract ib (Lb.map (kas_item it)).toArray.size) := by
  refine ⟨out ++ (La.drop ia ++ Lb.drop ib), ?_, m.p, List.pairwise_append.mpr ⟨m.s, ?_, m.c⟩⟩
  · simp [ho, List.take_of_length_le]
  · rcases h with h | h
    · rw [h, List.nil_append]; exact sb.sublist (List.drop_sublist _ _)
    · rw [h, List.append_nil]; exact sa.sublist (List.drop_sublist _ _)
theorem MI.last {La Lb out : List Nat} {ia ib : Nat} {it : Array Keyed} {o : Array Keyed} (m : MI lt La Lb out ia ib) (ho : o.toList = out.map (kas_item it)) (sa : La.Pairwise (Le lt)) (sb : Lb.Pairwise (Le lt)) (h : ∀ x ∈ Lb, ∀ y ∈ La.drop ia, Le lt x y) :
    Told lt it La Lb (o ++ (Lb.map (kas_item it)).toArray.extract ib (Lb.map (kas_item it)).toArray.size ++ (La.map (kas_item it)).toArray.extract ia (La.map (kas_item it)).toArray.size) := by
  refine ⟨out ++ (Lb.drop ib ++ La.drop ia), ?_, ?_, List.pairwise_append.mpr ⟨m.s, List.pairwise_append.mpr ⟨sb.sublist (List.drop_sublist _ _), sa.sublist (List.drop_sublist _ _), fun x hx y hy => h x (List.mem_of_mem_drop hx) y hy⟩, fun x hx y hy => m.c x hx y ?_⟩⟩
  · simp [ho, List.take_of_length_le]
  · exact (List.Perm.append_left _ List.perm_append_comm).trans m.p
  · rcases List.mem_append.mp hy with z | z
    · exact List.mem_append_right _ z
    · exact List.mem_append_left _ z
end
section
variable {prog : Program} {w : World} {A : Around} {E : Value -> Shared -> Prop} {s : Shared} {κ : SortKind} {it : Array Keyed} {lt : Nat -> Nat -> Bool} {N : Nat}
theorem Le.tr (o : Ord lt) {x y z : Nat} (h1 : Le lt x y) (h2 : Le lt y z) : Le lt x z := o.tr x y z h1 h2
theorem head_le (o : Ord lt) {L : List Nat} {i : Nat} (sL : L.Pairwise (Le lt)) (hi : i < L.length) : ∀ y ∈ L.drop i, Le lt L[i] y := by
  intro y hy
  rw [List.drop_eq_getElem_cons hi] at hy
  rcases List.mem_cons.mp hy with z | z
  · rw [z]; exact o.rf _
  · have := sL.sublist (List.drop_sublist i L)
    rw [List.drop_eq_getElem_cons hi, List.pairwise_cons] at this
    exact this.1 y z
theorem take_one {L : List Nat} {i : Nat} (hi : i < L.length) : (L.drop i).take 1 = [L[i]] := by rw [List.drop_eq_getElem_cons hi]; rfl
theorem wp_ite {α : Type} {c : Prop} [Decidable c] {X Y : StateT SortSt Sem α} {st : SortSt} {Q : α -> SortSt -> Prop} (h1 : c -> wpS (model prog w) A E s X Q st) (h2 : ¬ c -> wpS (model prog w) A E s Y Q st) : wpS (model prog w) A E s (if c then X else Y) Q st := by
  by_cases h : c
  · rw [if_pos h]; exact h1 h
  · rw [if_neg h]; exact h2 h
theorem wp_yes {α : Type} {c : Prop} [Decidable c] {X Y : StateT SortSt Sem α} {st : SortSt} {Q : α -> SortSt -> Prop} (h : c) (h1 : wpS (model prog w) A E s X Q st) : wpS (model prog w) A E s (if c then X else Y) Q st := by rw [if_pos h]; exact h1
theorem wp_no {α : Type} {c : Prop} [Decidable c] {X Y : StateT SortSt Sem α} {st : SortSt} {Q : α -> SortSt -> Prop} (h : ¬ c) (h1 : wpS (model prog w) A E s Y Q st) : wpS (model prog w) A E s (if c then X else Y) Q st := by rw [if_neg h]; exact h1
theorem mem_slice {L : List Nat} {b r x : Nat} (h : x ∈ (L.drop b).take r) : ∃ i, i < r /\ b + i < L.length /\ x = L.getD (b + i) 0 := by
  obtain ⟨i, hi, rfl⟩ := List.getElem_of_mem h
  rw [List.length_take, List.length_drop] at hi
  refine ⟨i, by omega, by omega, ?_⟩
  rw [List.getElem_take, List.getElem_drop, List.getD_eq_getElem?_getD, List.getElem?_eq_getElem (by omega)]
  rfl
theorem mem_dropN {L : List Nat} {b x : Nat} (h : x ∈ L.drop b) : ∃ i, b + i < L.length /\ x = L.getD (b + i) 0 := by
  obtain ⟨i, hi, rfl⟩ := List.getElem_of_mem h
  rw [List.length_drop] at hi
  refine ⟨i, by omega, ?_⟩
  rw [List.getElem_drop, List.getD_eq_getElem?_getD, List.getElem?_eq_getElem (by omega)]
  rfl
theorem gallopL_ok {left : Bool} {k : Nat} {L : List Nat} {base n hint : Nat} {st : SortSt} {Q : Option Nat -> SortSt -> Prop} (c : Cmp prog w A κ it lt N s) (o : Ord lt) (hk : kindOf st = κ) (kN : k < N) (qN : ∀ x ∈ L, x < N) (hb : base + n <= L.length) (hh : hint < n) (sL : L.Pairwise (Le lt))
    (h : ∀ r, r <= n -> (∀ i, i < r -> Bey lt left k (L.getD (base + i) 0) = true) -> (∀ i, r <= i -> i < n -> Bey lt left k (L.getD (base + i) 0) = false) -> Q (some r) st) :
    wpS (model prog w) A E s (gallop' left (kas_item it k) (L.map (kas_item it)).toArray base n hint) Q st := by
  have e : (L.map (kas_item it)).toArray = L.toArray.map (kas_item it) := by simp
  have g : ∀ i, L.toArray.getD i 0 = L.getD i 0 := fun i => by rw [Array.getD_eq_getD_getElem?, List.getD_eq_getElem?_getD]; simp
  rw [e]
  refine gallop_ok c hk kN (fun i hi => ?_) (by simpa using hb) hh (fun i j hij hj hB => ?_) (fun r r1 r2 r3 => h r r1 (fun i hi => ?_) (fun i h1 h2 => ?_))
  · rw [g]
    have hi' : i < L.length := by simpa using hi
    rw [List.getD_eq_getElem?_getD, List.getElem?_eq_getElem hi']
    exact qN _ (List.getElem_mem hi')
  · rw [g] at hB ⊢
    have lij : Le lt (L.getD (base + i) 0) (L.getD (base + j) 0) := by
      have h1 : base + i < L.length := by omega
      have h2 : base + j < L.length := by omega
      rw [List.getD_eq_getElem?_getD, List.getElem?_eq_getElem h1, List.getD_eq_getElem?_getD, List.getElem?_eq_getElem h2]
      by_cases e : i = j
      · subst e; exact o.rf _
      · exact List.pairwise_iff_getElem.mp sL _ _ h1 h2 (by omega)
    unfold Bey at hB ⊢
    cases left with
    | true =>
      rw [if_pos rfl] at hB ⊢
      cases z : lt (L.getD (base + i) 0) k with
      | true => rfl
      | false => rw [Le.tr o (x := k) z lij] at hB; cases hB
    | false =>
      rw [if_neg (by decide)] at hB ⊢
      have hB' : Le lt (L.getD (base + j) 0) k := by simpa using hB
      have := Le.tr o lij hB'
      rw [this]
      rfl
  · have := r2 i hi; rw [g] at this; exact this
  · have := r3 i h1 h2; rw [g] at this; exact this
theorem el_of {L : List Nat} {i : Nat} {st : SortSt} {Q : Keyed -> SortSt -> Prop} (hi : i < L.length) (h : Q (kas_item it L[i]) st) : wpS (model prog w) A E s (elem' (L.map (kas_item it)).toArray i) Q st := by
  rw [elem'_eq]
  have e : (L.map (kas_item it)).toArray[i]? = some (kas_item it L[i]) := by simp [hi]
  rw [e]
  exact wpS_pure h
def At (lt : Nat -> Nat -> Bool) (it : Array Keyed) (La Lb : List Nat) (out : Array Keyed) (ia ib : Nat) : Prop := ∃ L : List Nat, out.toList = L.map (kas_item it) /\ MI lt La Lb L ia ib
theorem At.b1 (o : Ord lt) {La Lb : List Nat} {out : Array Keyed} {ia ib : Nat} (h : At lt it La Lb out ia ib) (sb : Lb.Pairwise (Le lt)) (hi : ib < Lb.length) (hle : ∀ y ∈ La.drop ia, Le lt Lb[ib] y) : At lt it La Lb (out.push (kas_item it Lb[ib])) ia (ib + 1) := by
  obtain ⟨L, e, m⟩ := h
  have := m.bs sb 1 (by rw [take_one hi]; intro x hx; rw [List.mem_singleton.mp hx]; exact hle)
  rw [take_one hi] at this
  exact ⟨_, by rw [Array.toList_push, e, List.map_append]; rfl, this⟩
theorem At.a1 (o : Ord lt) {La Lb : List Nat} {out : Array Keyed} {ia ib : Nat} (h : At lt it La Lb out ia ib) (sa : La.Pairwise (Le lt)) (hi : ia < La.length) (hle : ∀ y ∈ Lb.drop ib, Le lt La[ia] y) : At lt it La Lb (out.push (kas_item it La[ia])) (ia + 1) ib := by
  obtain ⟨L, e, m⟩ := h
  have := m.as sa 1 (by rw [take_one hi]; intro x hx; rw [List.mem_singleton.mp hx]; exact hle)
  rw [take_one hi] at this
  exact ⟨_, by rw [Array.toList_push, e, List.map_append]; rfl, this⟩
theorem At.an {La Lb : List Nat} {out : Array Keyed} {ia ib : Nat} (h : At lt it La Lb out ia ib) (sa : La.Pairwise (Le lt)) (k : Nat) (hle : ∀ x ∈ (La.drop ia).take k, ∀ y ∈ Lb.drop ib, Le lt x y) : At lt it La Lb (out ++ (La.map (kas_item it)).toArray.extract ia (ia + k)) (ia + k) ib := by
  obtain ⟨L, e, m⟩ := h
  exact ⟨_, by simp [e, List.map_take, List.map_drop], m.as sa k hle⟩
theorem At.bn {La Lb : List Nat} {out : Array Keyed} {ia ib : Nat} (h : At lt it La Lb out ia ib) (sb : Lb.Pairwise (Le lt)) (k : Nat) (hle : ∀ x ∈ (Lb.drop ib).take k, ∀ y ∈ La.drop ia, Le lt x y) : At lt it La Lb (out ++ (Lb.map (kas_item it)).toArray.extract ib (ib + k)) ia (ib + k) := by
  obtain ⟨L, e, m⟩ := h
  exact ⟨_, by simp [e, List.map_take, List.map_drop], m.bs sb k hle⟩
end
end L2
namespace L2
open PySem PySem.W PyProof.Rows
section
variable {prog : Program} {w : World} {A : Around} {E : Value -> Shared -> Prop} {s : Shared} {κ : SortKind} {it : Array Keyed} {lt : Nat -> Nat -> Bool} {N : Nat}
theorem Gs.refl (st : SortSt) : Gs st st := ⟨rfl, rfl, rfl, rfl⟩
theorem Told.fin {La Lb : List Nat} {out : Array Keyed} {ia ib : Nat} (h : At lt it La Lb out ia ib) (sa : La.Pairwise (Le lt)) (sb : Lb.Pairwise (Le lt)) (z : La.length <= ia \/ Lb.length <= ib) :
    Told lt it La Lb (out ++ (La.map (kas_item it)).toArray.extract ia (La.map (kas_item it)).toArray.size ++ (Lb.map (kas_item it)).toArray.extract ib (Lb.map (kas_item it)).toArray.size) := by
  obtain ⟨L, e, m⟩ := h
  exact m.fin e sa sb (z.elim (fun z => .inl (List.drop_eq_nil_of_le z)) fun z => .inr (List.drop_eq_nil_of_le z))
theorem Told.last {La Lb : List Nat} {out : Array Keyed} {ia ib : Nat} (h : At lt it La Lb out ia ib) (sa : La.Pairwise (Le lt)) (sb : Lb.Pairwise (Le lt)) (hl : ∀ x ∈ Lb, ∀ y ∈ La.drop (La.length - 1), Le lt x y) (z : ia + 1 = La.length) :
    Told lt it La Lb (out ++ (Lb.map (kas_item it)).toArray.extract ib (Lb.map (kas_item it)).toArray.size ++ (La.map (kas_item it)).toArray.extract ia (La.map (kas_item it)).toArray.size) := by
  obtain ⟨L, e, m⟩ := h
  have : ia = La.length - 1 := by omega
  subst this
  exact m.last e sa sb hl
theorem mergeLo_ok {La Lb : List Nat} {st : SortSt} {Q : Array Keyed -> SortSt -> Prop} (c : Cmp prog w A κ it lt N s) (o : Ord lt) (hk : kindOf st = κ) (aN : ∀ x ∈ La, x < N) (bN : ∀ x ∈ Lb, x < N) (sa : La.Pairwise (Le lt)) (sb : Lb.Pairwise (Le lt)) (ha : 0 < La.length) (hb : 0 < Lb.length)
    (hf : ∀ y ∈ La, Le lt Lb[0] y) (hl : ∀ x ∈ Lb, ∀ y ∈ La.drop (La.length - 1), Le lt x y) (h : ∀ res st', Gs st st' -> Told lt it La Lb res -> Q res st') : wpS (model prog w) A E s (mergeLo' (La.map (kas_item it)).toArray (Lb.map (kas_item it)).toArray) Q st := by
  refine wpS_bind ?_
  refine wpS_lift (wpAny_rule ⟨rfl, ?_⟩)
  dsimp only
  refine wpS_bind (el_of hb ?_)
  have sz : ∀ L : List Nat, (L.map (kas_item it)).toArray.size = L.length := fun L => by simp
  have at0 : At lt it La Lb #[kas_item it Lb[0]] 0 1 := by
    have m0 : MI lt La Lb [] 0 0 := ⟨by simp, .nil, fun x hx => nomatch hx⟩
    have := At.b1 (it := it) o (out := #[]) ⟨[], rfl, m0⟩ sb hb (by simpa using hf)
    exact this
  by_cases e1 : 1 = Lb.length
  · rw [if_pos (by simp [e1])]
    exact wpS_pure (h _ _ (Gs.refl _) (Told.fin at0 sa sb (.inr (by omega))))
  rw [if_neg (by simp [e1])]
  by_cases e2 : 0 + 1 = La.length
  · rw [if_pos (by simp; omega)]
    exact wpS_pure (h _ _ (Gs.refl _) (Told.last at0 sa sb hl e2))
  rw [if_neg (by simp; omega)]
  refine wpS_bind (wpS_get ?_)
  generalize gallopOf st = mg0
  refine wpS_bind (wpS_mono (wpS_forRange
    (I := fun x r st' => Gs st st' /\ ∃ out ia ib mg, r = (none, out, ia, ib, mg) /\ At lt it La Lb out ia ib /\ ia + 1 < La.length /\ ib < Lb.length /\ x + 1 <= ia + ib)
    (Q := fun r st' => Gs st st' /\ ∃ res z, r = (some res, z) /\ Told lt it La Lb res) ?_ ?_ ⟨Gs.refl _, _, 0, 1, _, rfl, at0, by omega, by omega, by omega⟩) ?_)
  rotate_left
  · rintro r st' ⟨_, out, ia, ib, mg, rfl, a1, a2, a3, a4⟩
    exfalso
    rw [sz, sz] at a4
    omega
  · rintro r st' ⟨g, res, z, rfl, t⟩
    exact wpS_pure (h _ _ g t)
  rintro x r st1 _ hx ⟨g1, out, ia, ib, mg, rfl, a1, a2, a3, a4⟩
  dsimp only
  refine wpS_bind (wpS_mono (wpS_forRange
    (I := fun y r st' => st' = st1 /\ ∃ out' ia' ib' ac bc, r = (none, out', ia', ib', ac, bc) /\ At lt it La Lb out' ia' ib' /\ ia' + 1 < La.length /\ ib' < Lb.length /\ ia + ib + y <= ia' + ib')
    (Q := fun r st' => st' = st1 /\ ((∃ res z, r = (some res, z) /\ Told lt it La Lb res) \/ ∃ out' ia' ib' ac bc, r = (none, out', ia', ib', ac, bc) /\ At lt it La Lb out' ia' ib' /\ ia' + 1 < La.length /\ ib' < Lb.length /\ ia + ib + 1 <= ia' + ib')) ?_ ?_ ⟨rfl, _, _, _, _, _, rfl, a1, a2, a3, by omega⟩) ?_)
  · rintro y r st' _ hy ⟨rfl, out, ia', ib', ac, bc, rfl, b1, b2, b3, b4⟩
    dsimp only
    refine wpS_bind (el_of b3 (wpS_bind (el_of (show ia' < La.length by omega) (wpS_bind (lt_of c (g1.1.trans hk) (bN _ (List.getElem_mem _)) (aN _ (List.getElem_mem _)) ?_)))))
    cases w1 : lt Lb[ib'] La[ia'] with
    | true =>
      dsimp only
      rw [if_pos rfl]
      refine wpS_bind (el_of b3 ?_)
      have n1 := At.b1 o b1 sb b3 fun z hz => Le.tr o (o.as _ _ w1) (head_le o sa (by omega) z hz)
      by_cases f1 : ib' + 1 = Lb.length
      · rw [if_pos (by simp [f1])]
        exact wpS_pure ⟨rfl, .inl ⟨_, _, rfl, Told.fin n1 sa sb (.inr (by omega))⟩⟩
      · rw [if_neg (by simp [f1])]
        split
        · exact wpS_pure ⟨rfl, .inr ⟨_, _, _, _, _, rfl, n1, b2, by omega, by omega⟩⟩
        · exact wpS_pure ⟨rfl, _, _, _, _, _, rfl, n1, b2, by omega, by omega⟩
    | false =>
      dsimp only
      rw [if_neg (by decide)]
      refine wpS_bind (el_of (show ia' < La.length by omega) ?_)
      have n1 := At.a1 o b1 sa (show ia' < La.length by omega) fun z hz => Le.tr o w1 (head_le o sb b3 z hz)
      by_cases f1 : ia' + 1 + 1 = La.length
      · rw [if_pos (by simp [f1])]
        exact wpS_pure ⟨rfl, .inl ⟨_, _, rfl, Told.last n1 sa sb hl f1⟩⟩
      · rw [if_neg (by simp [f1])]
        split
        · exact wpS_pure ⟨rfl, .inr ⟨_, _, _, _, _, rfl, n1, by omega, b3, by omega⟩⟩
        · exact wpS_pure ⟨rfl, _, _, _, _, _, rfl, n1, by omega, b3, by omega⟩
  · rintro r st' ⟨_, out, ia', ib', ac, bc, rfl, b1, b2, b3, b4⟩
    exfalso
    rw [sz, sz] at b4
    omega
  rintro r st' ⟨rfl, z⟩
  rcases z with ⟨res, z, rfl, t⟩ | ⟨out2, ia2, ib2, ac, bc, rfl, b1, b2, b3, b4⟩
  · dsimp only
    exact wpS_pure ⟨g1, _, _, rfl, t⟩
  dsimp only
  refine wpS_bind (wpS_lift (wpAny_rule ⟨rfl, ?_⟩))
  refine wpS_bind (wpS_mono (wpS_forRange
    (I := fun y r st' => Gs st st' /\ ∃ out' ia' ib' mg ac bc, r = (none, out', ia', ib', mg, ac, bc) /\ At lt it La Lb out' ia' ib' /\ ia' + 1 < La.length /\ ib' < Lb.length /\ ia + ib + 1 + y <= ia' + ib')
    (Q := fun r st' => Gs st st' /\ ((∃ res z, r = (some res, z) /\ Told lt it La Lb res) \/ ∃ out' ia' ib' mg ac bc, r = (none, out', ia', ib', mg, ac, bc) /\ At lt it La Lb out' ia' ib' /\ ia' + 1 < La.length /\ ib' < Lb.length /\ ia + ib + 1 <= ia' + ib')) ?_ ?_ ⟨g1, _, _, _, _, _, _, rfl, b1, b2, b3, by omega⟩) ?_)
  rotate_left
  · rintro r st' ⟨_, out, ia', ib', mg, ac, bc, rfl, b1, b2, b3, b4⟩
    exfalso
    rw [sz, sz] at b4
    omega
  · rintro r st' ⟨g2, z⟩
    rcases z with ⟨res, z, rfl, t⟩ | ⟨out3, ia3, ib3, mg3, ac3, bc3, rfl, d1, d2, d3, d4⟩
    · dsimp only
      exact wpS_pure ⟨g2, _, _, rfl, t⟩
    · dsimp only
      refine wpS_bind (wpS_modify (wpS_pure ⟨⟨g2.1, g2.2.1, g2.2.2.1, g2.2.2.2⟩, _, _, _, _, rfl, d1, d2, d3, by omega⟩))
  clear b1 b2 b3 b4 a1 a2 a3
  rintro y r st2 _ hy ⟨g2, out, ia', ib', mg, ac, bc, rfl, b1, b2, b3, b4⟩
  dsimp only
  refine wp_ite (fun _ => ?_) (fun _ => ?_)
  all_goals
    refine wpS_bind (wpS_modify ?_)
    refine wpS_bind (el_of b3 ?_)
    refine wpS_bind (gallopL_ok c o (by exact g2.1.trans hk) (bN _ (List.getElem_mem _)) aN (by rw [sz]; omega) (by rw [sz]; omega) sa fun k k1 k2 k3 => ?_)
    rw [sz] at k1 k3
    dsimp only
    have A1 := b1.an sa k fun x hx y hy => by
      obtain ⟨j, j1, j2, rfl⟩ := mem_slice hx
      have := k2 j j1
      unfold Bey at this
      rw [if_neg (by decide)] at this
      exact Le.tr o (show Le lt _ Lb[ib'] by simpa using this) (head_le o sb b3 y hy)
    have R1 : ∀ y ∈ La.drop (ia' + k), Le lt Lb[ib'] y := fun y hy => by
      obtain ⟨j, j1, rfl⟩ := mem_dropN hy
      have := k3 (k + j) (by omega) (by omega)
      unfold Bey at this
      rw [if_neg (by decide), <- Nat.add_assoc] at this
      exact o.as _ _ (by simpa using this)
    by_cases kp : k > 0
    case' pos =>
      refine wp_yes kp ?_
      by_cases f1 : ia' + k + 1 = La.length
      · refine wp_yes (by simp [f1]) ?_
        exact wpS_pure ⟨⟨g2.1, g2.2.1, g2.2.2.1, g2.2.2.2⟩, .inl ⟨_, _, rfl, Told.last A1 sa sb hl f1⟩⟩
      refine wp_no (by simp [f1]) ?_
      by_cases f2 : ia' + k = La.length
      · refine wp_yes (by simp [f2]) ?_
        exact wpS_pure ⟨⟨g2.1, g2.2.1, g2.2.2.1, g2.2.2.2⟩, .inl ⟨_, _, rfl, Told.fin A1 sa sb (.inl (by omega))⟩⟩
      refine wp_no (by simp [f2]) ?_
      have i3 : ia' + k + 1 < La.length := by omega
      have i4 : ia' <= ia' + k := by omega
      generalize out ++ (La.map (kas_item it)).toArray.extract ia' (ia' + k) = o2 at A1 ⊢
      generalize ia' + k = i2 at A1 R1 i3 i4 ⊢
    case' neg =>
      refine wp_no kp ?_
      have k0 : k = 0 := by omega
      rw [k0] at R1
      have i3 : ia' + 1 < La.length := b2
      have i4 : ia' <= ia' := Nat.le_refl _
      clear A1
      have A1 := b1
      generalize hi2 : ia' + 0 = i2 at R1
      rw [Nat.add_zero] at hi2
      rw [hi2] at i3 i4 A1 ⊢
      generalize out = o2 at A1 ⊢
    all_goals
      refine wpS_bind (el_of b3 ?_)
      have A2 := At.b1 o A1 sb b3 R1
      by_cases f3 : ib' + 1 = Lb.length
      · refine wp_yes (by simp [f3]) ?_
        exact wpS_pure ⟨⟨g2.1, g2.2.1, g2.2.2.1, g2.2.2.2⟩, .inl ⟨_, _, rfl, Told.fin A2 sa sb (.inr (by omega))⟩⟩
      refine wp_no (by simp [f3]) ?_
      refine wpS_bind (el_of (show i2 < La.length by omega) ?_)
      refine wpS_bind (gallopL_ok c o (by exact g2.1.trans hk) (aN _ (List.getElem_mem _)) bN (by rw [sz]; omega) (by rw [sz]; omega) sb fun m m1 m2 m3 => ?_)
      rw [sz] at m1 m3
      dsimp only
      have A3 := A2.bn sb m fun x hx y hy => by
        obtain ⟨j, j1, j2, rfl⟩ := mem_slice hx
        have := m2 j j1
        unfold Bey at this
        rw [if_pos rfl] at this
        exact Le.tr o (o.as _ _ this) (head_le o sa (by omega) y hy)
      have R3 : ∀ y ∈ Lb.drop (ib' + 1 + m), Le lt La[i2] y := fun y hy => by
        obtain ⟨j, j1, rfl⟩ := mem_dropN hy
        have := m3 (m + j) (by omega) (by omega)
        unfold Bey at this
        rw [if_pos rfl, <- Nat.add_assoc] at this
        exact this
      have i5 : ib' + 1 < Lb.length := by omega
      by_cases mp : m > 0
      case' pos =>
        refine wp_yes mp ?_
        by_cases f4 : ib' + 1 + m = Lb.length
        · refine wp_yes (by simp [f4]) ?_
          exact wpS_pure ⟨⟨g2.1, g2.2.1, g2.2.2.1, g2.2.2.2⟩, .inl ⟨_, _, rfl, Told.fin A3 sa sb (.inr (by omega))⟩⟩
        refine wp_no (by simp [f4]) ?_
        have j3 : ib' + 1 + m < Lb.length := by omega
        have j4 : ib' + 1 <= ib' + 1 + m := by omega
        generalize o2.push (kas_item it Lb[ib']) ++ (Lb.map (kas_item it)).toArray.extract (ib' + 1) (ib' + 1 + m) = o3 at A3 ⊢
        generalize ib' + 1 + m = j2 at A3 R3 j3 j4 ⊢
      case' neg =>
        refine wp_no mp ?_
        have m0 : m = 0 := by omega
        rw [m0] at R3
        have j3 : ib' + 1 < Lb.length := i5
        have j4 : ib' + 1 <= ib' + 1 := Nat.le_refl _
        clear A3
        have A3 := A2
        rw [Nat.add_zero] at R3
        generalize hj2 : ib' + 1 = j2 at A3 R3 j3 j4 ⊢
        rw [<- hj2] at j4
        generalize o2.push (kas_item it Lb[ib']) = o3 at A3 ⊢
      all_goals
        refine wpS_bind (el_of (show i2 < La.length by omega) ?_)
        have A4 := At.a1 o A3 sa (show i2 < La.length by omega) R3
        by_cases f5 : i2 + 1 + 1 = La.length
        · refine wp_yes (by simp [f5]) ?_
          exact wpS_pure ⟨⟨g2.1, g2.2.1, g2.2.2.1, g2.2.2.2⟩, .inl ⟨_, _, rfl, Told.last A4 sa sb hl f5⟩⟩
        refine wp_no (by simp [f5]) (wp_ite (fun _ => ?_) (fun _ => ?_))
        · exact wpS_pure ⟨⟨g2.1, g2.2.1, g2.2.2.1, g2.2.2.2⟩, .inr ⟨_, _, _, _, _, _, rfl, A4, by omega, j3, by omega⟩⟩
        · exact wpS_pure ⟨⟨g2.1, g2.2.1, g2.2.2.1, g2.2.2.2⟩, _, _, _, _, _, _, rfl, A4, by omega, j3, by omega⟩
end
end L2
namespace L2
open PySem PySem.W PyProof.Rows
section
variable {prog : Program} {w : World} {A : Around} {E : Value -> Shared -> Prop} {s : Shared} {κ : SortKind} {it : Array Keyed} {lt : Nat -> Nat -> Bool} {N : Nat}
structure MH (lt : Nat -> Nat -> Bool) (La Lb R : List Nat) (na nb : Nat) : Prop where
  p : ((La.take na ++ Lb.take nb) ++ R).Perm (La ++ Lb)
  s : R.Pairwise (Le lt)
  c : ∀ x ∈ La.take na ++ Lb.take nb, ∀ y ∈ R, Le lt x y
theorem MH.as {La Lb R : List Nat} {na nb : Nat} (m : MH lt La Lb R na nb) (sa : La.Pairwise (Le lt)) (j : Nat) (hj : j <= na) (h : ∀ x ∈ Lb.take nb, ∀ y ∈ (La.take na).drop j, Le lt x y) : MH lt La Lb ((La.take na).drop j ++ R) j nb := by
  have e : La.take j = (La.take na).take j := by rw [List.take_take, Nat.min_eq_left hj]
  have t : (La.take na).take j ++ (La.take na).drop j = La.take na := List.take_append_drop _ _
  have sd : ((La.take na).take j ++ (La.take na).drop j).Pairwise (Le lt) := by rw [t]; exact sa.sublist (List.take_sublist _ _)
  obtain ⟨d1, d2, d3⟩ := List.pairwise_append.mp sd
  refine ⟨?_, List.pairwise_append.mpr ⟨d2, m.s, fun x hx y hy => m.c x (List.mem_append_left _ (List.mem_of_mem_drop hx)) y hy⟩, fun x hx y hy => ?_⟩
  · refine List.Perm.trans ?_ m.p
    rw [e, <- List.append_assoc]
    refine List.Perm.append_right _ ?_
    conv => rhs; rw [<- t]
    rw [List.append_assoc, List.append_assoc]
    exact List.Perm.append_left _ List.perm_append_comm
  · rw [e] at hx
    rcases List.mem_append.mp hy with hy | hy
    · rcases List.mem_append.mp hx with z | z
      · exact d3 x z y hy
      · exact h x z y hy
    · refine m.c x ?_ y hy
      rcases List.mem_append.mp hx with z | z
      · exact List.mem_append_left _ (List.mem_of_mem_take z)
      · exact List.mem_append_right _ z
theorem MH.bs {La Lb R : List Nat} {na nb : Nat} (m : MH lt La Lb R na nb) (sb : Lb.Pairwise (Le lt)) (j : Nat) (hj : j <= nb) (h : ∀ x ∈ La.take na, ∀ y ∈ (Lb.take nb).drop j, Le lt x y) : MH lt La Lb ((Lb.take nb).drop j ++ R) na j := by
  have e : Lb.take j = (Lb.take nb).take j := by rw [List.take_take, Nat.min_eq_left hj]
  have t : (Lb.take nb).take j ++ (Lb.take nb).drop j = Lb.take nb := List.take_append_drop _ _
  have sd : ((Lb.take nb).take j ++ (Lb.take nb).drop j).Pairwise (Le lt) := by rw [t]; exact sb.sublist (List.take_sublist _ _)
  obtain ⟨d1, d2, d3⟩ := List.pairwise_append.mp sd
  refine ⟨?_, List.pairwise_append.mpr ⟨d2, m.s, fun x hx y hy => m.c x (List.mem_append_right _ (List.mem_of_mem_drop hx)) y hy⟩, fun x hx y hy => ?_⟩
  · refine List.Perm.trans ?_ m.p
    rw [e, <- List.append_assoc, List.append_assoc (La.take na), t]
  · rw [e] at hx
    rcases List.mem_append.mp hy with hy | hy
    · rcases List.mem_append.mp hx with z | z
      · exact h x z y hy
      · exact d3 x z y hy
    · refine m.c x ?_ y hy
      rcases List.mem_append.mp hx with z | z
      · exact List.mem_append_left _ z
      · exact List.mem_append_right _ (List.mem_of_mem_take z)
def Ah (lt : Nat -> Nat -> Bool) (it : Array Keyed) (La Lb : List Nat) (out : Array Keyed) (na nb : Nat) : Prop := ∃ R : List Nat, out.toList = R.reverse.map (kas_item it) /\ MH lt La Lb R na nb
theorem last_one {L : List Nat} {n : Nat} (h0 : 0 < n) (hn : n <= L.length) : (L.take n).drop (n - 1) = [L[n - 1]] := by
  rw [List.drop_take, List.drop_eq_getElem_cons (show n - 1 < L.length by omega), show n - (n - 1) = 1 by omega]
  rfl
theorem last_ge (o : Ord lt) {L : List Nat} {n : Nat} (sL : L.Pairwise (Le lt)) (h0 : 0 < n) (hn : n <= L.length) : ∀ x ∈ L.take n, Le lt x L[n - 1] := by
  intro x hx
  obtain ⟨i, hi, rfl⟩ := List.getElem_of_mem hx
  rw [List.length_take] at hi
  rw [List.getElem_take]
  by_cases e : i = n - 1
  · subst e; exact o.rf _
  · exact List.pairwise_iff_getElem.mp sL _ _ (by omega) (by omega) (by omega)
theorem Ah.a1 {La Lb : List Nat} {out : Array Keyed} {na nb : Nat} (h : Ah lt it La Lb out na nb) (sa : La.Pairwise (Le lt)) (h0 : 0 < na) (hn : na <= La.length) (hle : ∀ x ∈ Lb.take nb, Le lt x La[na - 1]) : Ah lt it La Lb (out.push (kas_item it La[na - 1])) (na - 1) nb := by
  obtain ⟨R, e, m⟩ := h
  have := m.as sa (na - 1) (by omega) (by rw [last_one h0 hn]; intro x hx y hy; rw [List.mem_singleton.mp hy]; exact hle x hx)
  rw [last_one h0 hn] at this
  exact ⟨_, by rw [Array.toList_push, e]; simp, this⟩
theorem Ah.b1 {La Lb : List Nat} {out : Array Keyed} {na nb : Nat} (h : Ah lt it La Lb out na nb) (sb : Lb.Pairwise (Le lt)) (h0 : 0 < nb) (hn : nb <= Lb.length) (hle : ∀ x ∈ La.take na, Le lt x Lb[nb - 1]) : Ah lt it La Lb (out.push (kas_item it Lb[nb - 1])) na (nb - 1) := by
  obtain ⟨R, e, m⟩ := h
  have := m.bs sb (nb - 1) (by omega) (by rw [last_one h0 hn]; intro x hx y hy; rw [List.mem_singleton.mp hy]; exact hle x hx)
  rw [last_one h0 hn] at this
  exact ⟨_, by rw [Array.toList_push, e]; simp, this⟩
theorem Ah.an {La Lb : List Nat} {out : Array Keyed} {na nb : Nat} (h : Ah lt it La Lb out na nb) (sa : La.Pairwise (Le lt)) (j : Nat) (hj : j <= na) (hle : ∀ x ∈ Lb.take nb, ∀ y ∈ (La.take na).drop j, Le lt x y) : Ah lt it La Lb (out ++ ((La.map (kas_item it)).toArray.extract j na).reverse) j nb := by
  obtain ⟨R, e, m⟩ := h
  exact ⟨_, by simp [e, List.drop_take, List.map_take, List.map_drop], m.as sa j hj hle⟩
theorem Ah.bn {La Lb : List Nat} {out : Array Keyed} {na nb : Nat} (h : Ah lt it La Lb out na nb) (sb : Lb.Pairwise (Le lt)) (j : Nat) (hj : j <= nb) (hle : ∀ x ∈ La.take na, ∀ y ∈ (Lb.take nb).drop j, Le lt x y) : Ah lt it La Lb (out ++ ((Lb.map (kas_item it)).toArray.extract j nb).reverse) na j := by
  obtain ⟨R, e, m⟩ := h
  exact ⟨_, by simp [e, List.drop_take, List.map_take, List.map_drop], m.bs sb j hj hle⟩
theorem Told.hi {La Lb : List Nat} {out : Array Keyed} {na nb : Nat} (h : Ah lt it La Lb out na nb) (sa : La.Pairwise (Le lt)) (sb : Lb.Pairwise (Le lt)) (z : na = 0 \/ nb = 0) :
    Told lt it La Lb ((La.map (kas_item it)).toArray.extract 0 na ++ (Lb.map (kas_item it)).toArray.extract 0 nb ++ out.reverse) := by
  obtain ⟨R, e, m⟩ := h
  refine ⟨(La.take na ++ Lb.take nb) ++ R, by simp [e, List.map_take], m.p, List.pairwise_append.mpr ⟨?_, m.s, m.c⟩⟩
  rcases z with z | z
  · rw [z, List.take_zero, List.nil_append]; exact sb.sublist (List.take_sublist _ _)
  · rw [z, List.take_zero, List.append_nil]; exact sa.sublist (List.take_sublist _ _)
theorem Told.first {La Lb : List Nat} {out : Array Keyed} {na nb : Nat} (h : Ah lt it La Lb out na nb) (sa : La.Pairwise (Le lt)) (sb : Lb.Pairwise (Le lt)) (z : ∀ x ∈ Lb.take nb, ∀ y ∈ La, Le lt x y) :
    Told lt it La Lb ((Lb.map (kas_item it)).toArray.extract 0 nb ++ (La.map (kas_item it)).toArray.extract 0 na ++ out.reverse) := by
  obtain ⟨R, e, m⟩ := h
  refine ⟨(Lb.take nb ++ La.take na) ++ R, by simp [e, List.map_take], (List.Perm.append_right _ List.perm_append_comm).trans m.p, List.pairwise_append.mpr ⟨List.pairwise_append.mpr ⟨sb.sublist (List.take_sublist _ _), sa.sublist (List.take_sublist _ _), fun x hx y hy => z x hx y (List.mem_of_mem_take hy)⟩, m.s, fun x hx y hy => m.c x ?_ y hy⟩⟩
  rcases List.mem_append.mp hx with z | z
  · exact List.mem_append_right _ z
  · exact List.mem_append_left _ z
theorem mergeHi_ok {La Lb : List Nat} {st : SortSt} {Q : Array Keyed -> SortSt -> Prop} (c : Cmp prog w A κ it lt N s) (o : Ord lt) (hk : kindOf st = κ) (aN : ∀ x ∈ La, x < N) (bN : ∀ x ∈ Lb, x < N) (sa : La.Pairwise (Le lt)) (sb : Lb.Pairwise (Le lt)) (ha : 0 < La.length) (hb : 0 < Lb.length)
    (hf : ∀ y ∈ La, Le lt Lb[0] y) (hl : ∀ x ∈ Lb, Le lt x La[La.length - 1]) (h : ∀ res st', Gs st st' -> Told lt it La Lb res -> Q res st') : wpS (model prog w) A E s (mergeHi' (La.map (kas_item it)).toArray (Lb.map (kas_item it)).toArray) Q st := by
  refine wpS_bind ?_
  refine wpS_lift (wpAny_rule ⟨rfl, ?_⟩)
  dsimp only
  have sz : ∀ L : List Nat, (L.map (kas_item it)).toArray.size = L.length := fun L => by simp
  simp only [sz]
  refine wpS_bind (el_of (show La.length - 1 < La.length by omega) ?_)
  have hf1 : ∀ x ∈ Lb.take 1, ∀ y ∈ La, Le lt x y := fun x hx y hy => by
    rw [show Lb.take 1 = [Lb[0]] by have := take_one (L := Lb) hb; simpa using this] at hx
    rw [List.mem_singleton.mp hx]
    exact hf y hy
  have at0 : Ah lt it La Lb #[kas_item it La[La.length - 1]] (La.length - 1) Lb.length := by
    have m0 : MH lt La Lb [] La.length Lb.length := ⟨by simp, .nil, fun x _ y hy => nomatch hy⟩
    exact Ah.a1 (it := it) (out := #[]) ⟨[], rfl, m0⟩ sa ha (Nat.le_refl _) fun x hx => hl x (List.mem_of_mem_take hx)
  by_cases e1 : La.length - 1 = 0
  · refine wp_yes (by simp [e1]) ?_
    exact wpS_pure (h _ _ (Gs.refl _) (Told.hi at0 sa sb (.inl e1)))
  refine wp_no (by simpa using e1) ?_
  by_cases e2 : Lb.length = 1
  · refine wp_yes (by simp [e2]) ?_
    exact wpS_pure (h _ _ (Gs.refl _) (Told.first at0 sa sb (by rw [e2]; exact hf1)))
  refine wp_no (by simpa using e2) ?_
  refine wpS_bind (wpS_get ?_)
  refine wpS_bind (wpS_mono (wpS_forRange
    (I := fun x r st' => Gs st st' /\ ∃ na nb out mg, r = (none, na, nb, out, mg) /\ Ah lt it La Lb out na nb /\ 0 < na /\ na <= La.length /\ 1 < nb /\ nb <= Lb.length /\ na + nb + x + 1 <= La.length + Lb.length)
    (Q := fun r st' => Gs st st' /\ ∃ res z, r = (some res, z) /\ Told lt it La Lb res) ?_ ?_ ⟨Gs.refl _, _, _, _, _, rfl, at0, by omega, by omega, by omega, by omega, by omega⟩) ?_)
  rotate_left
  · rintro r st' ⟨_, na, nb, out, mg, rfl, a1, a2, a3, a4, a5, a6⟩
    exfalso
    omega
  · rintro r st' ⟨g, res, z, rfl, t⟩
    exact wpS_pure (h _ _ g t)
  rintro x r st1 _ hx ⟨g1, na, nb, out, mg, rfl, a1, a2, a3, a4, a5, a6⟩
  dsimp only
  refine wpS_bind (wpS_mono (wpS_forRange
    (I := fun y r st' => st' = st1 /\ ∃ na' nb' out' ac bc, r = (none, na', nb', out', ac, bc) /\ Ah lt it La Lb out' na' nb' /\ 0 < na' /\ na' <= La.length /\ 1 < nb' /\ nb' <= Lb.length /\ na' + nb' + y <= na + nb)
    (Q := fun r st' => st' = st1 /\ ((∃ res z, r = (some res, z) /\ Told lt it La Lb res) \/ ∃ na' nb' out' ac bc, r = (none, na', nb', out', ac, bc) /\ Ah lt it La Lb out' na' nb' /\ 0 < na' /\ na' <= La.length /\ 1 < nb' /\ nb' <= Lb.length /\ na' + nb' + 1 <= na + nb)) ?_ ?_ ⟨rfl, _, _, _, _, _, rfl, a1, a2, a3, a4, a5, by omega⟩) ?_)
  · rintro y r st' _ hy ⟨rfl, na', nb', out, ac, bc, rfl, b1, b2, b3, b4, b5, b6⟩
    dsimp only
    refine wpS_bind (el_of (show nb' - 1 < Lb.length by omega) (wpS_bind (el_of (show na' - 1 < La.length by omega) (wpS_bind (lt_of c (g1.1.trans hk) (bN _ (List.getElem_mem _)) (aN _ (List.getElem_mem _)) ?_)))))
    cases w1 : lt Lb[nb' - 1] La[na' - 1] with
    | true =>
      dsimp only
      refine wp_yes rfl ?_
      refine wpS_bind (el_of (show na' - 1 < La.length by omega) ?_)
      have n1 := Ah.a1 b1 sa b2 b3 fun z hz => Le.tr o (last_ge o sb (by omega) b5 z hz) (o.as _ _ w1)
      by_cases f1 : na' - 1 = 0
      · refine wp_yes (by simp [f1]) ?_
        exact wpS_pure ⟨rfl, .inl ⟨_, _, rfl, Told.hi n1 sa sb (.inl f1)⟩⟩
      · refine wp_no (by simpa using f1) (wp_ite (fun _ => ?_) (fun _ => ?_))
        · exact wpS_pure ⟨rfl, .inr ⟨_, _, _, _, _, rfl, n1, by omega, by omega, b4, b5, by omega⟩⟩
        · exact wpS_pure ⟨rfl, _, _, _, _, _, rfl, n1, by omega, by omega, b4, b5, by omega⟩
    | false =>
      dsimp only
      refine wp_no (by decide) ?_
      refine wpS_bind (el_of (show nb' - 1 < Lb.length by omega) ?_)
      have n1 := Ah.b1 b1 sb (by omega) b5 fun z hz => Le.tr o (last_ge o sa b2 b3 z hz) w1
      by_cases f1 : nb' - 1 = 1
      · refine wp_yes (by simp [f1]) ?_
        exact wpS_pure ⟨rfl, .inl ⟨_, _, rfl, Told.first n1 sa sb (by rw [f1]; exact hf1)⟩⟩
      · refine wp_no (by simpa using f1) (wp_ite (fun _ => ?_) (fun _ => ?_))
        · exact wpS_pure ⟨rfl, .inr ⟨_, _, _, _, _, rfl, n1, b2, b3, by omega, by omega, by omega⟩⟩
        · exact wpS_pure ⟨rfl, _, _, _, _, _, rfl, n1, b2, b3, by omega, by omega, by omega⟩
  · rintro r st' ⟨_, na', nb', out, ac, bc, rfl, b1, b2, b3, b4, b5, b6⟩
    exfalso
    omega
  rintro r st' ⟨rfl, z⟩
  rcases z with ⟨res, z, rfl, t⟩ | ⟨na2, nb2, out2, ac, bc, rfl, b1, b2, b3, b4, b5, b6⟩
  · dsimp only
    exact wpS_pure ⟨g1, _, _, rfl, t⟩
  dsimp only
  refine wpS_bind (wpS_lift (wpAny_rule ⟨rfl, ?_⟩))
  refine wpS_bind (wpS_mono (wpS_forRange
    (I := fun y r st' => Gs st st' /\ ∃ na' nb' out' mg ac bc, r = (none, na', nb', out', mg, ac, bc) /\ Ah lt it La Lb out' na' nb' /\ 0 < na' /\ na' <= La.length /\ 1 < nb' /\ nb' <= Lb.length /\ na' + nb' + y + 1 <= na + nb)
    (Q := fun r st' => Gs st st' /\ ((∃ res z, r = (some res, z) /\ Told lt it La Lb res) \/ ∃ na' nb' out' mg ac bc, r = (none, na', nb', out', mg, ac, bc) /\ Ah lt it La Lb out' na' nb' /\ 0 < na' /\ na' <= La.length /\ 1 < nb' /\ nb' <= Lb.length /\ na' + nb' + 1 <= na + nb)) ?_ ?_ ⟨g1, _, _, _, _, _, _, rfl, b1, b2, b3, b4, b5, by omega⟩) ?_)
  rotate_left
  · rintro r st' ⟨_, na', nb', out, mg, ac, bc, rfl, b1, b2, b3, b4, b5, b6⟩
    exfalso
    omega
  · rintro r st' ⟨g2, z⟩
    rcases z with ⟨res, z, rfl, t⟩ | ⟨na3, nb3, out3, mg3, ac3, bc3, rfl, d1, d2, d3, d4, d5, d6⟩
    · dsimp only
      exact wpS_pure ⟨g2, _, _, rfl, t⟩
    · dsimp only
      refine wpS_bind (wpS_modify (wpS_pure ⟨⟨g2.1, g2.2.1, g2.2.2.1, g2.2.2.2⟩, _, _, _, _, rfl, d1, d2, d3, d4, d5, by omega⟩))
  clear b1 b2 b3 b4 b5 b6 a1
  rintro y r st2 _ hy ⟨g2, na', nb', out, mg, ac, bc, rfl, b1, b2, b3, b4, b5, b6⟩
  dsimp only
  refine wp_ite (fun _ => ?_) (fun _ => ?_)
  all_goals
    refine wpS_bind (wpS_modify ?_)
    refine wpS_bind (el_of (show nb' - 1 < Lb.length by omega) ?_)
    refine wpS_bind (gallopL_ok c o (by exact g2.1.trans hk) (bN _ (List.getElem_mem _)) aN (by omega) (by omega) sa fun k k1 k2 k3 => ?_)
    dsimp only
    simp only [Nat.zero_add] at k2 k3
    have A1 := b1.an sa k k1 fun x hx y hy => by
      rw [List.drop_take] at hy
      obtain ⟨j, j1, j2, rfl⟩ := mem_slice hy
      have := k3 (k + j) (by omega) (by omega)
      unfold Bey at this
      rw [if_neg (by decide)] at this
      exact Le.tr o (last_ge o sb (by omega) b5 x hx) (o.as _ _ (by simpa using this))
    have R1 : ∀ x ∈ La.take k, Le lt x Lb[nb' - 1] := fun x hx => by
      obtain ⟨j, j1, j2, rfl⟩ := mem_slice (b := 0) (by simpa using hx)
      have := k2 j j1
      unfold Bey at this
      rw [if_neg (by decide)] at this
      rw [Nat.zero_add]
      simpa using this
    by_cases kp : na' - k > 0
    case' pos =>
      refine wp_yes kp ?_
      by_cases f2 : k = 0
      · refine wp_yes (by simp [f2]) ?_
        exact wpS_pure ⟨⟨g2.1, g2.2.1, g2.2.2.1, g2.2.2.2⟩, .inl ⟨_, _, rfl, Told.hi A1 sa sb (.inl f2)⟩⟩
      refine wp_no (by simpa using f2) ?_
      have i3 : 0 < k := by omega
      have i4 : k <= na' := k1
      generalize out ++ ((La.map (kas_item it)).toArray.extract k na').reverse = o2 at A1 ⊢
      generalize na' - k = ck
      clear k2 k3 kp f2
      generalize k = i2 at A1 R1 i3 i4 ⊢
    case' neg =>
      refine wp_no kp ?_
      have k0 : k = na' := by omega
      rw [k0] at R1
      have i3 : 0 < na' := b2
      have i4 : na' <= na' := Nat.le_refl _
      clear A1
      have A1 := b1
      rw [k0] at *
      clear k1 k2 k3 k0
      generalize out = o2 at A1 ⊢
      generalize na' - na' = ck
      obtain ⟨i2, ei2⟩ : ∃ i2, i2 = na' := ⟨_, rfl⟩
      rw [<- ei2] at A1 R1 i3 ⊢
      have i4 : i2 <= na' := by omega
    all_goals
      refine wpS_bind (el_of (show nb' - 1 < Lb.length by omega) ?_)
      have A2 := Ah.b1 A1 sb (by omega) b5 R1
      by_cases f3 : nb' - 1 = 1
      · refine wp_yes (by simp [f3]) ?_
        exact wpS_pure ⟨⟨g2.1, g2.2.1, g2.2.2.1, g2.2.2.2⟩, .inl ⟨_, _, rfl, Told.first A2 sa sb (by rw [f3]; exact hf1)⟩⟩
      refine wp_no (by simpa using f3) ?_
      refine wpS_bind (el_of (show i2 - 1 < La.length by omega) ?_)
      refine wpS_bind (gallopL_ok c o (by exact g2.1.trans hk) (aN _ (List.getElem_mem _)) bN (by omega) (by omega) sb fun m m1 m2 m3 => ?_)
      dsimp only
      simp only [Nat.zero_add] at m2 m3
      have A3 := A2.bn sb m m1 fun x hx y hy => by
        rw [List.drop_take] at hy
        obtain ⟨j, j1, j2, rfl⟩ := mem_slice hy
        have := m3 (m + j) (by omega) (by omega)
        unfold Bey at this
        rw [if_pos rfl] at this
        exact Le.tr o (last_ge o sa i3 (by omega) x hx) this
      have R3 : ∀ x ∈ Lb.take m, Le lt x La[i2 - 1] := fun x hx => by
        obtain ⟨j, j1, j2, rfl⟩ := mem_slice (b := 0) (by simpa using hx)
        have := m2 j j1
        unfold Bey at this
        rw [if_pos rfl] at this
        rw [Nat.zero_add]
        exact o.as _ _ this
      by_cases mp : nb' - 1 - m > 0
      case' pos =>
        refine wp_yes mp ?_
        by_cases f4 : m = 1
        · refine wp_yes (by simp [f4]) ?_
          exact wpS_pure ⟨⟨g2.1, g2.2.1, g2.2.2.1, g2.2.2.2⟩, .inl ⟨_, _, rfl, Told.first A3 sa sb (by rw [f4]; exact hf1)⟩⟩
        refine wp_no (by simpa using f4) ?_
        by_cases f5 : m = 0
        · refine wp_yes (by simp [f5]) ?_
          exact wpS_pure ⟨⟨g2.1, g2.2.1, g2.2.2.1, g2.2.2.2⟩, .inl ⟨_, _, rfl, Told.hi A3 sa sb (.inr f5)⟩⟩
        refine wp_no (by simpa using f5) ?_
        have j3 : 1 < m := by omega
        have j4 : m + 1 <= nb' := by omega
        generalize o2.push (kas_item it Lb[nb' - 1]) ++ ((Lb.map (kas_item it)).toArray.extract m (nb' - 1)).reverse = o3 at A3 ⊢
        generalize nb' - 1 - m = cm
        clear m2 m3 mp f4 f5
        generalize m = j2 at A3 R3 j3 j4 ⊢
      case' neg =>
        refine wp_no mp ?_
        have m0 : m = nb' - 1 := by omega
        rw [m0] at R3
        clear A3
        have A3 := A2
        generalize nb' - 1 - m = cm
        generalize o2.push (kas_item it Lb[nb' - 1]) = o3 at A3 ⊢
        obtain ⟨j2, ej2⟩ : ∃ j2, j2 = nb' - 1 := ⟨_, rfl⟩
        rw [<- ej2] at A3 R3 ⊢
        have j3 : 1 < j2 := by omega
        have j4 : j2 + 1 <= nb' := by omega
      all_goals
        refine wpS_bind (el_of (show i2 - 1 < La.length by omega) ?_)
        have A4 := Ah.a1 A3 sa i3 (by omega) R3
        by_cases f6 : i2 - 1 = 0
        · refine wp_yes (by simp [f6]) ?_
          exact wpS_pure ⟨⟨g2.1, g2.2.1, g2.2.2.1, g2.2.2.2⟩, .inl ⟨_, _, rfl, Told.hi A4 sa sb (.inl f6)⟩⟩
        refine wp_no (by simpa using f6) (wp_ite (fun _ => ?_) (fun _ => ?_))
        · exact wpS_pure ⟨⟨g2.1, g2.2.1, g2.2.2.1, g2.2.2.2⟩, .inr ⟨_, _, _, _, _, _, rfl, A4, by omega, by omega, j3, by omega, by omega⟩⟩
        · exact wpS_pure ⟨⟨g2.1, g2.2.1, g2.2.2.1, g2.2.2.2⟩, _, _, _, _, _, _, rfl, A4, by omega, by omega, j3, by omega, by omega⟩
end
end L2
namespace L2
open PySem PySem.W PyProof.Rows
section
variable {prog : Program} {w : World} {A : Around} {E : Value -> Shared -> Prop} {s : Shared} {κ : SortKind} {it : Array Keyed} {lt : Nat -> Nat -> Bool} {N : Nat}
theorem wpS_put {x st : SortSt} {Q : PUnit -> SortSt -> Prop} (h : Q ⟨⟩ x) : wpS (model prog w) A E s (set x : StateT SortSt Sem PUnit) Q st := by
  unfold wpS
  rw [StateT.run_set]
  exact wpAny_pure ⟨rfl, h⟩
theorem gallopS_ok {left : Bool} {k : Nat} {L X : List Nat} {base hint : Nat} {st : SortSt} {Q : Option Nat -> SortSt -> Prop} (c : Cmp prog w A κ it lt N s) (o : Ord lt) (hk : kindOf st = κ) (kN : k < N) (qN : ∀ x ∈ L, x < N) (hb : base + X.length <= L.length) (hs : ∀ j, j < X.length -> L.getD (base + j) 0 = X.getD j 0) (hh : hint < X.length) (sX : X.Pairwise (Le lt))
    (h : ∀ r, r <= X.length -> (∀ x ∈ X.take r, Bey lt left k x = true) -> (∀ x ∈ X.drop r, Bey lt left k x = false) -> Q (some r) st) :
    wpS (model prog w) A E s (gallop' left (kas_item it k) (L.map (kas_item it)).toArray base X.length hint) Q st := by
  have e : (L.map (kas_item it)).toArray = L.toArray.map (kas_item it) := by simp
  have g : ∀ i, L.toArray.getD i 0 = L.getD i 0 := fun i => by rw [Array.getD_eq_getD_getElem?, List.getD_eq_getElem?_getD]; simp
  rw [e]
  refine gallop_ok c hk kN (fun i hi => ?_) (by simpa using hb) hh (fun i j hij hj hB => ?_) (fun r r1 r2 r3 => h r r1 (fun x hx => ?_) (fun x hx => ?_))
  · rw [g]
    have hi' : i < L.length := by simpa using hi
    rw [List.getD_eq_getElem?_getD, List.getElem?_eq_getElem hi']
    exact qN _ (List.getElem_mem hi')
  · rw [g, hs _ (by omega)] at hB ⊢
    have lij : Le lt (X.getD i 0) (X.getD j 0) := by
      have h1 : i < X.length := by omega
      rw [List.getD_eq_getElem?_getD, List.getElem?_eq_getElem h1, List.getD_eq_getElem?_getD, List.getElem?_eq_getElem hj]
      by_cases e : i = j
      · subst e; exact o.rf _
      · exact List.pairwise_iff_getElem.mp sX _ _ h1 hj (by omega)
    unfold Bey at hB ⊢
    cases left with
    | true =>
      rw [if_pos rfl] at hB ⊢
      cases z : lt (X.getD i 0) k with
      | true => rfl
      | false => rw [Le.tr o (x := k) z lij] at hB; cases hB
    | false =>
      rw [if_neg (by decide)] at hB ⊢
      have hB' : Le lt (X.getD j 0) k := by simpa using hB
      have := Le.tr o lij hB'
      rw [this]
      rfl
  · obtain ⟨i, i1, i2, rfl⟩ := mem_slice (b := 0) (by simpa using hx)
    rw [Nat.zero_add] at i2 ⊢
    have := r2 i i1
    rw [g, hs _ i2] at this
    exact this
  · obtain ⟨i, i1, rfl⟩ := mem_dropN hx
    have := r3 (r + i) (by omega) i1
    rw [g, hs _ i1] at this
    exact this
theorem mid_of {α β : Type} (f : α -> β) (P B C : List α) (a b : Nat) (ha : a = P.length) (hb : b = P.length + B.length) : ((P ++ B ++ C).map f).toArray.extract a b = (B.map f).toArray := by
  subst ha hb
  apply Array.toList_inj.mp
  simp
theorem set_go {α : Type} (b : Nat) : ∀ (M P X Z : List α) (k : Nat), P.length = b + k -> X.length = M.length -> ((M.zipIdx k).foldl (fun (a : Array α) (p : α × Nat) => a.setIfInBounds (b + p.2) p.1) (P ++ X ++ Z).toArray) = (P ++ M ++ Z).toArray
  | [], P, X, Z, k, _, h => by
    have : X = [] := List.eq_nil_of_length_eq_zero (by simpa using h)
    subst this
    rfl
  | m :: M, P, X, Z, k, hp, h => by
    cases X with
    | nil => simp at h
    | cons x X =>
      rw [List.zipIdx_cons, List.foldl_cons]
      have e : (P ++ x :: X ++ Z).toArray.setIfInBounds (b + k) m = ((P ++ [m]) ++ X ++ Z).toArray := by
        apply Array.toList_inj.mp
        rw [Array.toList_setIfInBounds]
        show (P ++ x :: X ++ Z).set (b + k) m = P ++ [m] ++ X ++ Z
        rw [<- hp]
        simp
      show (M.zipIdx (k + 1)).foldl _ ((P ++ x :: X ++ Z).toArray.setIfInBounds (b + k) m) = _
      rw [e, set_go b M (P ++ [m]) X Z (k + 1) (by rw [List.length_append]; show P.length + 1 = _; omega) (by simpa using h)]
      simp
structure StAt (κ : SortKind) (it : Array Keyed) (st : SortSt) (L : List Nat) (pd : Array (Nat × Nat × Nat)) : Prop where
  k : kindOf st = κ
  a : arrOf st = (L.map (kas_item it)).toArray
  p : pendingOf st = pd
  f : failedOf st = none
theorem mergeAt_ok {i : Nat} {P X Y Z : List Nat} {pd : Array (Nat × Nat × Nat)} {pw pw2 : Nat} {st : SortSt} {Q : Bool -> SortSt -> Prop} (c : Cmp prog w A κ it lt N s) (o : Ord lt) (h0 : StAt κ it st (P ++ X ++ Y ++ Z) pd) (lN : ∀ x ∈ P ++ X ++ Y ++ Z, x < N)
    (p1 : pd[i]? = some (P.length, X.length, pw)) (p2 : pd[i + 1]? = some (P.length + X.length, Y.length, pw2)) (hX : 0 < X.length) (hY : 0 < Y.length) (sX : X.Pairwise (Le lt)) (sY : Y.Pairwise (Le lt))
    (h : ∀ st' W, StAt κ it st' (P ++ W ++ Z) ((pd.setIfInBounds i (P.length, X.length + Y.length, pw)).eraseIdxIfInBounds (i + 1)) -> W.Perm (X ++ Y) -> W.Pairwise (Le lt) -> Q true st') : wpS (model prog w) A E s (mergeAt' i) Q st := by
  rcases st with ⟨kd, ar, pn, gl, fl⟩
  have ek : kd = κ := h0.k
  have ea : ar = ((P ++ X ++ Y ++ Z).map (kas_item it)).toArray := h0.a
  have ep : pn = pd := h0.p
  have ef : fl = none := h0.f
  subst ek ea ep ef
  refine wpS_bind (wpS_get ?_)
  have hL : ∀ j, j < Y.length -> (P ++ X ++ Y ++ Z).getD (P.length + X.length + j) 0 = Y.getD j 0 := fun j hj => by
    rw [List.getD_eq_getElem?_getD, List.getD_eq_getElem?_getD, List.append_assoc, List.append_assoc, List.getElem?_append_right (by omega), List.getElem?_append_right (by omega), List.getElem?_append_left (by omega)]
    congr 2
    omega
  have hL2 : ∀ j, j < X.length -> (P ++ X ++ Y ++ Z).getD (P.length + j) 0 = X.getD j 0 := fun j hj => by
    rw [List.getD_eq_getElem?_getD, List.getD_eq_getElem?_getD, List.append_assoc, List.append_assoc, List.getElem?_append_right (by omega), List.getElem?_append_left (by omega)]
    congr 2
    omega
  have ll : (P ++ X ++ Y ++ Z).length = P.length + X.length + Y.length + Z.length := by simp; omega
  have gE : ∀ (L : List Nat) (i : Nat) (h : i < L.length), L[i] = L.getD i 0 := fun L i h => by rw [List.getD_eq_getElem?_getD, List.getElem?_eq_getElem h]; rfl
  have xN : ∀ x ∈ X, x < N := fun x hx => lN x (by simp [hx])
  have yN : ∀ x ∈ Y, x < N := fun x hx => lN x (by simp [hx])
  dsimp only
  rw [p1, p2]
  dsimp only
  refine wpS_bind (wpS_put ?_)
  refine wpS_bind (el_of (show P.length + X.length < (P ++ X ++ Y ++ Z).length by omega) ?_)
  have y0 : (P ++ X ++ Y ++ Z)[P.length + X.length]'(by omega) = Y[0] := by
    rw [gE, gE, <- hL 0 hY, Nat.add_zero]
  rw [y0]
  refine wpS_bind (gallopS_ok c o (by exact h0.k) (yN _ (List.getElem_mem _)) lN (by omega) hL2 hX sX fun k k1 k2 k3 => ?_)
  dsimp only
  have X1 : ∀ x ∈ X.take k, Le lt x Y[0] := fun x hx => by
    have := k2 x hx
    unfold Bey at this
    rw [if_neg (by decide)] at this
    simpa using this
  have X2 : ∀ x ∈ X.drop k, Le lt Y[0] x := fun x hx => by
    have := k3 x hx
    unfold Bey at this
    rw [if_neg (by decide)] at this
    exact o.as _ _ (by simpa using this)
  have Y0 : ∀ y ∈ Y, Le lt Y[0] y := fun y hy => head_le o sY hY y (by simpa using hy)
  by_cases f1 : X.length - k = 0
  · refine wp_yes (by simp [f1]) (wpS_pure (h _ (X ++ Y) ⟨h0.k, ?_, ?_, h0.f⟩ (List.Perm.refl _) ?_))
    · rw [<- List.append_assoc]
    · rfl
    · refine List.pairwise_append.mpr ⟨sX, sY, fun x hx y hy => Le.tr o (X1 x ?_) (Y0 y hy)⟩
      rw [List.take_of_length_le (by omega)]
      exact hx
  refine wp_no (by simpa using f1) ?_
  have kl : k < X.length := by omega
  refine wpS_bind (el_of (show P.length + k + (X.length - k) - 1 < (P ++ X ++ Y ++ Z).length by omega) ?_)
  have xl : (P ++ X ++ Y ++ Z)[P.length + k + (X.length - k) - 1]'(by omega) = X[X.length - 1] := by
    rw [gE, gE, <- hL2 (X.length - 1) (by omega)]
    congr 1
    omega
  rw [xl]
  refine wpS_bind (gallopS_ok c o (by exact h0.k) (xN _ (List.getElem_mem _)) lN (by omega) hL (show Y.length - 1 < Y.length by omega) sY fun m m1 m2 m3 => ?_)
  dsimp only
  have Y1 : ∀ y ∈ Y.take m, Le lt y X[X.length - 1] := fun y hy => by
    have := m2 y hy
    unfold Bey at this
    rw [if_pos rfl] at this
    exact o.as _ _ this
  have Y2 : ∀ y ∈ Y.drop m, Le lt X[X.length - 1] y := fun y hy => by
    have := m3 y hy
    unfold Bey at this
    rw [if_pos rfl] at this
    exact this
  have XL : ∀ x ∈ X, Le lt x X[X.length - 1] := fun x hx => last_ge o sX hX (Nat.le_refl _) x (by simpa using hx)
  by_cases f2 : m = 0
  · refine wp_yes (by simp [f2]) (wpS_pure (h _ (X ++ Y) ⟨h0.k, ?_, ?_, h0.f⟩ (List.Perm.refl _) ?_))
    · rw [<- List.append_assoc]
    · rfl
    · refine List.pairwise_append.mpr ⟨sX, sY, fun x hx y hy => Le.tr o (XL x hx) (Y2 y ?_)⟩
      rw [f2]
      exact hy
  refine wp_no (by simpa using f2) ?_
  have xe : ((P ++ X ++ Y ++ Z).map (kas_item it)).toArray.extract (P.length + k) (P.length + X.length) = ((X.drop k).map (kas_item it)).toArray := by
    have e : P ++ X ++ Y ++ Z = (P ++ X.take k) ++ X.drop k ++ (Y ++ Z) := by
      simp only [List.append_assoc]
      rw [<- List.append_assoc (X.take k), List.take_append_drop]
    rw [e]
    exact mid_of _ _ _ _ _ _ (by rw [List.length_append, List.length_take]; omega) (by rw [List.length_append, List.length_take, List.length_drop]; omega)
  have ye : ((P ++ X ++ Y ++ Z).map (kas_item it)).toArray.extract (P.length + X.length) (P.length + X.length + m) = ((Y.take m).map (kas_item it)).toArray := by
    have e : P ++ X ++ Y ++ Z = (P ++ X) ++ Y.take m ++ (Y.drop m ++ Z) := by
      simp only [List.append_assoc]
      rw [<- List.append_assoc (Y.take m), List.take_append_drop]
    rw [e]
    exact mid_of _ _ _ _ _ _ (by rw [List.length_append]) (by rw [List.length_append, List.length_take]; omega)
  rw [xe, ye]
  have dl : (X.drop k).length = X.length - k := List.length_drop
  have tl : (Y.take m).length = m := by rw [List.length_take]; omega
  have t0 : (Y.take m)[0]'(by omega) = Y[0] := List.getElem_take
  have d9 : (X.drop k)[(X.drop k).length - 1]'(by omega) = X[X.length - 1] := by
    rw [List.getElem_drop]
    congr 1
    omega
  have fin : ∀ (res : Array Keyed) (st' : SortSt), Gs (SortSt.mk' kd ((P ++ X ++ Y ++ Z).map (kas_item it)).toArray ((pn.setIfInBounds i (P.length, X.length + Y.length, pw)).eraseIdxIfInBounds (i + 1)) gl none) st' -> Told lt it (X.drop k) (Y.take m) res ->
      wpS (model prog w) A E s (modify (fun s => SortSt.mk' (kindOf s) (res.toList.zipIdx.foldl (fun (a : Array Keyed) (x : Keyed × Nat) => match x with | (p, j) => a.setIfInBounds (P.length + k + j) p) (arrOf s)) (pendingOf s) (gallopOf s) (failedOf s)) >>= fun _ => get >>= fun s => pure (failedOf s).isNone) Q st' := by
    intro res st' g ⟨M, eM, pM, sM⟩
    rcases st' with ⟨kd', ar', pn', gl', fl'⟩
    obtain ⟨g1, g2, g3, g4⟩ := g
    have q1 : kd' = kd := g1
    have q2 : ar' = ((P ++ X ++ Y ++ Z).map (kas_item it)).toArray := g2
    have q3 : pn' = (pn.setIfInBounds i (P.length, X.length + Y.length, pw)).eraseIdxIfInBounds (i + 1) := g3
    have q4 : fl' = none := g4
    subst q1 q2 q3 q4
    refine wpS_bind (wpS_modify (wpS_bind (wpS_get (wpS_pure ?_))))
    refine h _ (X.take k ++ M ++ Y.drop m) ⟨rfl, ?_, rfl, rfl⟩ ?_ ?_
    · show res.toList.zipIdx.foldl _ ((P ++ X ++ Y ++ Z).map (kas_item it)).toArray = _
      have e : (P ++ X ++ Y ++ Z).map (kas_item it) = (P ++ X.take k).map (kas_item it) ++ (X.drop k ++ Y.take m).map (kas_item it) ++ (Y.drop m ++ Z).map (kas_item it) := by
        rw [<- List.map_append, <- List.map_append]
        congr 1
        simp only [List.append_assoc]
        rw [<- List.append_assoc (X.take k), List.take_append_drop, <- List.append_assoc (Y.take m), List.take_append_drop]
      rw [eM, e]
      have := set_go (P.length + k) (M.map (kas_item it)) ((P ++ X.take k).map (kas_item it)) ((X.drop k ++ Y.take m).map (kas_item it)) ((Y.drop m ++ Z).map (kas_item it)) 0 (by rw [List.length_map, List.length_append, List.length_take]; omega) (by rw [List.length_map, List.length_map, pM.length_eq])
      refine Eq.trans this ?_
      congr 1
      rw [<- List.map_append, <- List.map_append]
      congr 1
      simp only [List.append_assoc]
    · have : (X.take k ++ M ++ Y.drop m).Perm (X.take k ++ (X.drop k ++ Y.take m) ++ Y.drop m) := List.Perm.append_right _ (List.Perm.append_left _ pM)
      refine this.trans ?_
      rw [<- List.append_assoc, List.take_append_drop, List.append_assoc, List.take_append_drop]
    · have hM : ∀ z ∈ M, z ∈ X.drop k \/ z ∈ Y.take m := fun z hz => List.mem_append.mp (pM.mem_iff.mp hz)
      have sY' : (Y.take m ++ Y.drop m).Pairwise (Le lt) := by rw [List.take_append_drop]; exact sY
      have sX' : (X.take k ++ X.drop k).Pairwise (Le lt) := by rw [List.take_append_drop]; exact sX
      refine List.pairwise_append.mpr ⟨List.pairwise_append.mpr ⟨sX.sublist (List.take_sublist _ _), sM, fun x hx z hz => ?_⟩, sY.sublist (List.drop_sublist _ _), fun z hz y hy => ?_⟩
      · rcases hM z hz with hz | hz
        · exact (List.pairwise_append.mp sX').2.2 x hx z hz
        · exact Le.tr o (X1 x hx) (Y0 z (List.mem_of_mem_take hz))
      · rcases List.mem_append.mp hz with hz | hz
        · exact Le.tr o (XL z (List.mem_of_mem_take hz)) (Y2 y hy)
        · rcases hM z hz with hz | hz
          · exact Le.tr o (XL z (List.mem_of_mem_drop hz)) (Y2 y hy)
          · exact (List.pairwise_append.mp sY').2.2 z hz y hy
  refine wp_ite (fun _ => ?_) (fun _ => ?_)
  · refine wpS_bind (mergeLo_ok c o (by exact h0.k) (fun x hx => xN x (List.mem_of_mem_drop hx)) (fun x hx => yN x (List.mem_of_mem_take hx)) (sX.sublist (List.drop_sublist _ _)) (sY.sublist (List.take_sublist _ _)) (by omega) (by omega) ?_ ?_ fun res st' g tt => ?_)
    · rw [t0]; exact X2
    · intro x hx y hy
      have e : (X.drop k).drop ((X.drop k).length - 1) = [X[X.length - 1]] := by
        rw [List.drop_eq_getElem_cons (show (X.drop k).length - 1 < (X.drop k).length by omega), d9]
        congr 1
        exact List.drop_eq_nil_of_le (by omega)
      rw [e] at hy
      rw [List.mem_singleton.mp hy]
      exact Y1 x hx
    · exact fin res st' g tt
  · refine wpS_bind (mergeHi_ok c o (by exact h0.k) (fun x hx => xN x (List.mem_of_mem_drop hx)) (fun x hx => yN x (List.mem_of_mem_take hx)) (sX.sublist (List.drop_sublist _ _)) (sY.sublist (List.take_sublist _ _)) (by omega) (by omega) ?_ ?_ fun res st' g tt => ?_)
    · rw [t0]; exact X2
    · rw [d9]; exact Y1
    · exact fin res st' g tt
end
end L2
namespace L2
open PySem PySem.W PyProof.Rows
section
variable {prog : Program} {w : World} {A : Around} {E : Value -> Shared -> Prop} {s : Shared} {κ : SortKind} {it : Array Keyed} {lt : Nat -> Nat -> Bool} {N : Nat}
structure StP (κ : SortKind) (it : Array Keyed) (st : SortSt) (p : Array Nat) (pd : Array (Nat × Nat × Nat)) : Prop where
  k : kindOf st = κ
  a : arrOf st = p.map (kas_item it)
  p : pendingOf st = pd
  f : failedOf st = none
def UpF (lt : Nat -> Nat -> Bool) (p : Array Nat) (lo n : Nat) : Prop := ∀ i j, lo <= i -> i <= j -> j < lo + n -> lt (p.getD j 0) (p.getD i 0) = false
theorem ltAt_ok {i j : Nat} {p : Array Nat} {pd : Array (Nat × Nat × Nat)} {st : SortSt} {Q : Option Bool -> SortSt -> Prop} (c : Cmp prog w A κ it lt N s) (B : PB N p) (S : StP κ it st p pd) (hi : i < N) (hj : j < N) (h : Q (some (lt (p.getD i 0) (p.getD j 0))) st) : wpS (model prog w) A E s (ltAt' i j) Q st := by
  rw [ltAt'_eq]
  refine wpS_bind (wpS_get ?_)
  show wpS _ _ _ _ (elem' (arrOf st) i >>= fun x => elem' (arrOf st) j >>= fun y => lt' x y) Q st
  rw [S.a]
  refine wpS_bind (elem_of (by rw [B.size]; exact hi) (wpS_bind (elem_of (by rw [B.size]; exact hj) ?_)))
  exact lt_of c S.k (B.lt hi) (B.lt hj) h
theorem move_ok {k l : Nat} {p : Array Nat} {pd : Array (Nat × Nat × Nat)} {st : SortSt} {Q : Unit -> SortSt -> Prop} (S : StP κ it st p pd) (h : ∀ st', StP κ it st' (bubble p k (k - l)) pd -> Q () st') : wpS (model prog w) A E s (moveDown' k l) Q st := by
  rw [moveDown'_eq]
  refine wpS_modify (h _ ⟨S.k, ?_, S.p, S.f⟩)
  show bubble (arrOf st) k (k - l) = _
  rw [S.a]
  exact kas_swaps_map (kas_item it) (fun i => k - i) (fun i => k - i - 1) _ p
theorem rev_ok {i j : Nat} {p : Array Nat} {pd : Array (Nat × Nat × Nat)} {st : SortSt} {Q : Unit -> SortSt -> Prop} (S : StP κ it st p pd) (h : ∀ st', StP κ it st' (kas_rev p i j) pd -> Q () st') : wpS (model prog w) A E s (reverseSlice' i j) Q st := by
  rw [reverseSlice'_eq]
  refine wpS_modify (h _ ⟨S.k, ?_, S.p, S.f⟩)
  show mirror (arrOf st) i j ((j - i) / 2) = _
  rw [S.a]
  exact kas_swaps_map (kas_item it) (fun k => i + k) (fun k => j - 1 - k) _ p
theorem ins_up (o : Ord lt) {p : Array Nat} {lo k l : Nat} (B : PB N p) (hk : lo + k < N) (hl : l <= k) (h : UpF lt p lo k) (h1 : ∀ i, i < l -> Le lt (p.getD (lo + i) 0) (p.getD (lo + k) 0)) (h2 : ∀ i, l <= i -> i < k -> Le lt (p.getD (lo + k) 0) (p.getD (lo + i) 0)) :
    UpF lt (bubble p (lo + k) (lo + k - (lo + l))) lo (k + 1) := by
  intro i j hi hij hj
  rw [bub_at B hk (by omega), bub_at B hk (by omega)]
  by_cases a : j = lo + l
  · rw [if_pos a]
    by_cases b : i = lo + l
    · rw [if_pos b]; exact o.rf _
    · rw [if_neg b, if_neg (by omega)]
      have := h1 (i - lo) (by omega)
      rw [show lo + (i - lo) = i by omega] at this
      exact this
  · rw [if_neg a]
    by_cases b : lo + l < j /\ j <= lo + k
    · rw [if_pos b]
      by_cases d : i = lo + l
      · rw [if_pos d]
        have := h2 (j - 1 - lo) (by omega) (by omega)
        rw [show lo + (j - 1 - lo) = j - 1 by omega] at this
        exact this
      · rw [if_neg d]
        by_cases e : lo + l < i /\ i <= lo + k
        · rw [if_pos e]; exact h _ _ (by omega) (by omega) (by omega)
        · rw [if_neg e]; exact h _ _ (by omega) (by omega) (by omega)
    · rw [if_neg b]
      rw [if_neg (by omega), if_neg (by omega)]
      exact h _ _ hi hij (by omega)
theorem binary_ok {lo n ok : Nat} {p : Array Nat} {pd : Array (Nat × Nat × Nat)} {st : SortSt} {Q : Bool -> SortSt -> Prop} (c : Cmp prog w A κ it lt N s) (o : Ord lt) (B : PB N p) (S : StP κ it st p pd) (hn : lo + n <= N) (h1 : 1 <= n) (hok : ok <= n) (u : UpF lt p lo ok)
    (h : ∀ st' p', StP κ it st' p' pd -> PB N p' -> UpF lt p' lo n -> (∀ i, i < lo -> p'.getD i 0 = p.getD i 0) -> Q true st') : wpS (model prog w) A E s (binarySort' lo n ok) Q st := by
  refine wpS_bind (wpS_mono (wpS_forRange
    (I := fun k r st' => r = (none, ()) /\ ∃ p', StP κ it st' p' pd /\ PB N p' /\ UpF lt p' lo k /\ (∀ i, i < lo -> p'.getD i 0 = p.getD i 0))
    (Q := fun r st' => r = (none, ()) /\ ∃ p', StP κ it st' p' pd /\ PB N p' /\ UpF lt p' lo n /\ (∀ i, i < lo -> p'.getD i 0 = p.getD i 0)) ?_ ?_ ⟨rfl, p, S, B, ?_, fun _ _ => rfl⟩) ?_)
  · rintro k r st' hk1 hk2 ⟨rfl, p', S', B', u', e'⟩
    refine wpS_bind (wpS_mono (wpS_forRange
      (I := fun x r st'' => st'' = st' /\ ∃ l m, r = (none, l, m) /\ l <= m /\ m <= k /\ m - l + x <= k /\ (∀ i, i < l -> Le lt (p'.getD (lo + i) 0) (p'.getD (lo + k) 0)) /\ (∀ i, m <= i -> i < k -> Le lt (p'.getD (lo + k) 0) (p'.getD (lo + i) 0)))
      (Q := fun r st'' => st'' = st' /\ ∃ l m, r = (none, l, m) /\ l <= k /\ (∀ i, i < l -> Le lt (p'.getD (lo + i) 0) (p'.getD (lo + k) 0)) /\ (∀ i, l <= i -> i < k -> Le lt (p'.getD (lo + k) 0) (p'.getD (lo + i) 0))) ?_ ?_ ⟨rfl, 0, k, rfl, by omega, by omega, by omega, fun i hi => absurd hi (by omega), fun i h1 h2 => absurd h1 (by omega)⟩) ?_)
    · rintro x r st'' _ hx ⟨rfl, l, m, rfl, l1, l2, l3, l4, l5⟩
      dsimp only
      by_cases e : l >= m
      · refine wp_yes e (wpS_pure ⟨rfl, l, m, rfl, by omega, l4, fun i h1 h2 => l5 i (by omega) h2⟩)
      refine wp_no e (wpS_bind (ltAt_ok c B' S' (by omega) (by omega) ?_))
      cases z : lt (p'.getD (lo + k) 0) (p'.getD (lo + (l + m) / 2) 0) with
      | true =>
        dsimp only
        refine wp_yes rfl (wpS_pure ⟨rfl, l, (l + m) / 2, rfl, by omega, by omega, by omega, l4, fun i h1 h2 => Le.tr o (o.as _ _ z) (u' _ _ (by omega) (by omega) (by omega))⟩)
      | false =>
        dsimp only
        refine wp_no (by decide) (wpS_pure ⟨rfl, (l + m) / 2 + 1, m, rfl, by omega, by omega, by omega, fun i hi => Le.tr o (u' _ _ (by omega) (by omega) (by omega)) z, l5⟩)
    · rintro r st'' ⟨rfl, l, m, rfl, l1, l2, l3, l4, l5⟩
      exact ⟨rfl, l, m, rfl, by omega, l4, fun i h1 h2 => l5 i (by omega) h2⟩
    · rintro r st'' ⟨rfl, l, m, rfl, l1, l4, l5⟩
      dsimp only
      refine wpS_bind (move_ok S' fun st3 S3 => wpS_pure ⟨rfl, _, S3, B'.bub _ _, ins_up o B' (by omega) l1 u' l4 l5, fun i hi => ?_⟩)
      rw [bub_at B' (by omega) (by omega), if_neg (by omega), if_neg (by omega)]
      exact e' i hi
  · rintro r st' ⟨rfl, p', S', B', u', e'⟩
    exact ⟨rfl, p', S', B', by rw [show max (max ok 1) n = n by omega] at u'; exact u', e'⟩
  · intro i j hi hij hj
    by_cases e : i = j
    · subst e; exact o.rf _
    · exact u i j hi hij (by omega)
  · rintro r st' ⟨rfl, p', S', B', u', e'⟩
    exact wpS_pure (h st' p' S' B' u' e')
end
end L2
namespace L2
open PySem PySem.W PyProof.Rows
section
variable {prog : Program} {w : World} {A : Around} {E : Value -> Shared -> Prop} {s : Shared} {κ : SortKind} {it : Array Keyed} {lt : Nat -> Nat -> Bool} {N : Nat}
def DownF (lt : Nat -> Nat -> Bool) (p : Array Nat) (lo n : Nat) : Prop := ∀ i j, lo <= i -> i <= j -> j < lo + n -> lt (p.getD i 0) (p.getD j 0) = false
theorem up_moreF (o : Ord lt) {p : Array Nat} {lo n : Nat} (h : UpF lt p lo n) (n1 : 1 <= n) (c : lt (p.getD (lo + n) 0) (p.getD (lo + n - 1) 0) = false) : UpF lt p lo (n + 1) := by
  intro i j hi hij hj
  by_cases e : j = lo + n
  · subst e
    by_cases e2 : i = lo + n
    · subst e2; exact o.rf _
    · exact o.tr _ _ _ (h i (lo + n - 1) hi (by omega) (by omega)) c
  · exact h i j hi hij (by omega)
theorem down_moreF (o : Ord lt) {p : Array Nat} {lo n : Nat} (h : DownF lt p lo n) (n1 : 1 <= n) (c : lt (p.getD (lo + n - 1) 0) (p.getD (lo + n) 0) = false) : DownF lt p lo (n + 1) := by
  intro i j hi hij hj
  by_cases e : j = lo + n
  · subst e
    by_cases e2 : i = lo + n
    · subst e2; exact o.rf _
    · exact o.tr _ _ _ c (h i (lo + n - 1) hi (by omega) (by omega))
  · exact h i j hi hij (by omega)
theorem down_flatF {p : Array Nat} (B : PB N p) {lo n q : Nat} (hn : lo + n <= N) (hq : q + 1 <= n) (h : DownF lt p lo n) (fl : Flat lt p (lo + n - (q + 1)) (lo + n)) : DownF lt (kas_rev p (lo + n - (q + 1)) (lo + n)) lo n := by
  intro i j hi hij hj
  rw [rev_at B hn, rev_at B hn]
  by_cases c1 : lo + n - (q + 1) <= i /\ i < lo + n
  · rw [if_pos c1, if_pos (by omega)]
    exact fl _ _ (by omega) (by omega) (by omega) (by omega)
  · rw [if_neg c1]
    by_cases c2 : lo + n - (q + 1) <= j /\ j < lo + n
    · rw [if_pos c2]
      exact h _ _ hi (by omega) (by omega)
    · rw [if_neg c2]
      exact h _ _ hi hij hj
theorem down_revF {p : Array Nat} (B : PB N p) {lo n : Nat} (hn : lo + n <= N) (h : DownF lt p lo n) : UpF lt (kas_rev p lo (lo + n)) lo n := by
  intro i j hi hij hj
  rw [rev_at B hn, rev_at B hn, if_pos (by omega), if_pos (by omega)]
  exact h _ _ (by omega) (by omega) (by omega)
theorem count_ok {lo nrem : Nat} {p : Array Nat} {pd : Array (Nat × Nat × Nat)} {st : SortSt} {Q : Option Nat -> SortSt -> Prop} (c : Cmp prog w A κ it lt N s) (o : Ord lt) (B : PB N p) (S : StP κ it st p pd) (hn : lo + nrem <= N) (h1 : 1 <= nrem)
    (h : ∀ st' p' n, StP κ it st' p' pd -> PB N p' -> 1 <= n -> n <= nrem -> UpF lt p' lo n -> (∀ i, i < lo -> p'.getD i 0 = p.getD i 0) -> Q (some n) st') : wpS (model prog w) A E s (countRun' lo nrem) Q st := by
  refine wpS_bind (wpS_mono (wpS_forRange
    (I := fun x r st' => st' = st /\ r = (none, x) /\ UpF lt p lo x)
    (Q := fun r st' => st' = st /\ ∃ n, r = (none, n) /\ 1 <= n /\ n <= nrem /\ UpF lt p lo n /\ (n = nrem \/ lt (p.getD (lo + n) 0) (p.getD (lo + n - 1) 0) = true)) ?_ ?_ ⟨rfl, rfl, ?_⟩) ?_)
  · rintro x r st' hx1 hx2 ⟨rfl, rfl, u⟩
    refine wpS_bind (ltAt_ok c B S (by omega) (by omega) ?_)
    cases z : lt (p.getD (lo + x) 0) (p.getD (lo + x - 1) 0) with
    | true =>
      dsimp only
      exact wp_yes rfl (wpS_pure ⟨rfl, x, rfl, hx1, by omega, u, .inr z⟩)
    | false =>
      dsimp only
      exact wp_no (by decide) (wpS_pure ⟨rfl, rfl, up_moreF o u hx1 z⟩)
  · rintro r st' ⟨rfl, rfl, u⟩
    rw [show max 1 nrem = nrem by omega] at u ⊢
    exact ⟨rfl, nrem, rfl, h1, Nat.le_refl _, u, .inl rfl⟩
  · intro i j hi hij hj
    have : i = j := by omega
    subst this; exact o.rf _
  rintro r st' ⟨rfl, n, rfl, n1, n2, u, fin⟩
  dsimp only
  by_cases e1 : n = nrem
  · exact wp_yes (by simp [e1]) (wpS_pure (h _ p n S B n1 n2 u fun _ _ => rfl))
  refine wp_no (by simpa using e1) ?_
  have z : lt (p.getD (lo + n) 0) (p.getD (lo + n - 1) 0) = true := fin.resolve_left e1
  have zz := o.as _ _ z
  have K0 : ∀ i, i < lo -> p.getD i 0 = p.getD i 0 := fun _ _ => rfl
  have hl : n < nrem := by omega
  by_cases m : n > 1
  case' pos =>
    refine wp_yes m (wpS_bind (ltAt_ok c B S (by omega) (by omega) ?_))
    by_cases rz : lt (p.getD lo 0) (p.getD (lo + n - 1) 0) = true
    · rw [rz]
      dsimp only
      exact wp_yes rfl (wpS_pure (h _ p n S B n1 n2 u fun _ _ => rfl))
    have rz' : lt (p.getD lo 0) (p.getD (lo + n - 1) 0) = false := by simpa using rz
    rw [rz']
    dsimp only
    refine wp_no (by decide) (wpS_bind (rev_ok S fun st2 S2 => ?_))
    have fl : ∀ i j, lo <= i -> i < lo + n -> lo <= j -> j < lo + n -> lt (p.getD i 0) (p.getD j 0) = false := fun i j i0 i1 j0 j1 =>
      Le.tr o (Le.tr o (u j (lo + n - 1) j0 (by omega) (by omega)) rz') (u lo i (by omega) (by omega) (by omega))
    have B2 := B.rev lo (lo + n)
    have D2 : DownF lt (kas_rev p lo (lo + n)) lo (n + 1) := by
      intro i j hi hij hj
      rw [rev_at B (by omega), rev_at B (by omega)]
      by_cases e : j = lo + n
      · subst e
        rw [if_neg (show ¬ (lo <= lo + n /\ lo + n < lo + n) by omega)]
        by_cases e2 : i = lo + n
        · subst e2
          rw [if_neg (by omega)]
          exact o.rf _
        · rw [if_pos (by omega)]
          exact Le.tr o zz (fl _ _ (by omega) (by omega) (by omega) (by omega))
      · rw [if_pos (by omega), if_pos (by omega)]
        exact fl _ _ (by omega) (by omega) (by omega) (by omega)
    have K2 : ∀ i, i < lo -> (kas_rev p lo (lo + n)).getD i 0 = p.getD i 0 := fun i hi => by rw [rev_at B (by omega), if_neg (by omega)]
    generalize kas_rev p lo (lo + n) = p2 at S2 B2 D2 K2
  case' neg =>
    refine wp_no m ?_
    have B2 := B
    have S2 := S
    have K2 := K0
    have D2 : DownF lt p lo (n + 1) := down_moreF o (fun i j hi hij hj => by
      have : i = j := by omega
      subst this; exact o.rf _) n1 zz
    obtain ⟨st2, est2⟩ : ∃ st2, st2 = st' := ⟨_, rfl⟩
    obtain ⟨p2, ep2⟩ : ∃ p2, p2 = p := ⟨_, rfl⟩
    rw [<- est2] at S2 ⊢
    rw [<- ep2] at S2 B2 D2
    have K2 : ∀ i, i < lo -> p2.getD i 0 = p.getD i 0 := fun i _ => by rw [ep2]
  all_goals
    refine wpS_bind (wpS_lift (wpAny_rule ⟨rfl, ?_⟩))
    refine wpS_bind (wpS_mono (wpS_forRange
      (I := fun x r st3 => ∃ q p3, r = (none, x, q) /\ StP κ it st3 p3 pd /\ PB N p3 /\ DownF lt p3 lo x /\ q + 1 <= x /\ Flat lt p3 (lo + x - (q + 1)) (lo + x) /\ (∀ i, i < lo -> p3.getD i 0 = p.getD i 0))
      (Q := fun r st3 => ∃ x q p3, r = (none, x, q) /\ 1 <= x /\ x <= nrem /\ StP κ it st3 p3 pd /\ PB N p3 /\ DownF lt p3 lo x /\ q + 1 <= x /\ Flat lt p3 (lo + x - (q + 1)) (lo + x) /\ (∀ i, i < lo -> p3.getD i 0 = p.getD i 0)) ?_ ?_ ⟨0, p2, rfl, S2, B2, D2, by omega, ?_, K2⟩) ?_)
    · rintro x r st3 hx1 hx2 ⟨q, p3, rfl, S3, B3, D3, q1, F3, K3⟩
      dsimp only
      refine wpS_bind (ltAt_ok c B3 S3 (by omega) (by omega) ?_)
      by_cases y1 : lt (p3.getD (lo + x) 0) (p3.getD (lo + x - 1) 0) = true
      · rw [y1]
        dsimp only
        refine wp_yes rfl ?_
        have y2 := o.as _ _ y1
        by_cases q0 : q > 0
        · refine wp_yes q0 (wpS_bind (rev_ok S3 fun st4 S4 => wpS_pure ⟨0, _, rfl, S4, B3.rev _ _, ?_, by omega, fun i j i1 i2 j1 j2 => ?_, fun i hi => ?_⟩))
          · have en : (kas_rev p3 (lo + x - (q + 1)) (lo + x)).getD (lo + x) 0 = p3.getD (lo + x) 0 := by rw [rev_at B3 (by omega), if_neg (by omega)]
            have el : (kas_rev p3 (lo + x - (q + 1)) (lo + x)).getD (lo + x - 1) 0 = p3.getD (lo + x - (q + 1)) 0 := by
              rw [rev_at B3 (by omega), if_pos (by omega)]
              congr 1
              omega
            refine down_moreF o (down_flatF B3 (by omega) q1 D3 F3) (by omega) ?_
            rw [en, el]
            exact Le.tr o y2 (F3 _ _ (by omega) (by omega) (by omega) (by omega))
          · have : i = j := by omega
            subst this; exact o.rf _
          · rw [rev_at B3 (by omega), if_neg (by omega)]; exact K3 i hi
        · refine wp_no q0 (wpS_pure ⟨0, p3, rfl, S3, B3, down_moreF o D3 (by omega) y2, by omega, fun i j i1 i2 j1 j2 => ?_, K3⟩)
          have : i = j := by omega
          subst this; exact o.rf _
      · have y1' : lt (p3.getD (lo + x) 0) (p3.getD (lo + x - 1) 0) = false := by simpa using y1
        rw [y1']
        dsimp only
        refine wp_no (by decide) (wpS_bind (ltAt_ok c B3 S3 (by omega) (by omega) ?_))
        by_cases y2 : lt (p3.getD (lo + x - 1) 0) (p3.getD (lo + x) 0) = true
        · rw [y2]
          dsimp only
          exact wp_yes rfl (wpS_pure ⟨x, q, p3, rfl, by omega, by omega, S3, B3, D3, q1, F3, K3⟩)
        · have y2' : lt (p3.getD (lo + x - 1) 0) (p3.getD (lo + x) 0) = false := by simpa using y2
          rw [y2']
          dsimp only
          refine wp_no (by decide) (wpS_pure ⟨q + 1, p3, rfl, S3, B3, down_moreF o D3 (by omega) y2', by omega, fun i j i1 i2 j1 j2 => ?_, K3⟩)
          have fi : ∀ k, lo + (x + 1) - (q + 1 + 1) <= k -> k < lo + (x + 1) -> Le lt (p3.getD k 0) (p3.getD (lo + x - 1) 0) /\ Le lt (p3.getD (lo + x - 1) 0) (p3.getD k 0) := fun k k1 k2 => by
            by_cases ek : k = lo + x
            · rw [ek]; exact ⟨y2', y1'⟩
            · exact ⟨F3 _ _ (by omega) (by omega) (by omega) (by omega), F3 _ _ (by omega) (by omega) (by omega) (by omega)⟩
          exact Le.tr o (fi j j1 j2).1 (fi i i1 i2).2
    · rintro r st3 ⟨q, p3, rfl, S3, B3, D3, q1, F3, K3⟩
      rw [show max (n + 1) nrem = nrem by omega] at D3 q1 F3 ⊢
      exact ⟨nrem, q, p3, rfl, h1, Nat.le_refl _, S3, B3, D3, q1, F3, K3⟩
    · intro i j i1 i2 j1 j2
      have : i = j := by omega
      subst this; exact o.rf _
    rintro r st3 ⟨x, q, p3, rfl, x1, x2, S3, B3, D3, q1, F3, K3⟩
    dsimp only
    by_cases q0 : q > 0
    case' pos =>
      refine wp_yes q0 (wpS_bind (rev_ok S3 fun st4 S4 => ?_))
      have D4 := down_flatF B3 (by omega) q1 D3 F3
      have B4 := B3.rev (lo + x - (q + 1)) (lo + x)
      have K4 : ∀ i, i < lo -> (kas_rev p3 (lo + x - (q + 1)) (lo + x)).getD i 0 = p.getD i 0 := fun i hi => by rw [rev_at B3 (by omega), if_neg (by omega)]; exact K3 i hi
      generalize kas_rev p3 (lo + x - (q + 1)) (lo + x) = p4 at S4 D4 B4 K4
    case' neg =>
      refine wp_no q0 ?_
      have D4 := D3
      have B4 := B3
      have K4 := K3
      have S4 := S3
      generalize p3 = p4 at S4 D4 B4 K4
      generalize st3 = st4 at S4 ⊢
    all_goals
      refine wpS_bind (rev_ok S4 fun st5 S5 => ?_)
      have U5 := down_revF B4 (by omega) D4
      have B5 := B4.rev lo (lo + x)
      have K5 : ∀ i, i < lo -> (kas_rev p4 lo (lo + x)).getD i 0 = p.getD i 0 := fun i hi => by rw [rev_at B4 (by omega), if_neg (by omega)]; exact K4 i hi
      generalize kas_rev p4 lo (lo + x) = p5 at S5 U5 B5 K5
      refine wpS_bind (wpS_mono (wpS_forRange
        (I := fun y r st' => st' = st5 /\ r = (none, y) /\ UpF lt p5 lo y)
        (Q := fun r st' => st' = st5 /\ ∃ n, r = (none, n) /\ 1 <= n /\ n <= nrem /\ UpF lt p5 lo n) ?_ ?_ ⟨rfl, rfl, U5⟩) ?_)
      · rintro y r st' hy1 hy2 ⟨rfl, rfl, u⟩
        refine wpS_bind (ltAt_ok c B5 S5 (by omega) (by omega) ?_)
        cases z : lt (p5.getD (lo + y) 0) (p5.getD (lo + y - 1) 0) with
        | true =>
          dsimp only
          exact wp_yes rfl (wpS_pure ⟨rfl, y, rfl, by omega, by omega, u⟩)
        | false =>
          dsimp only
          exact wp_no (by decide) (wpS_pure ⟨rfl, rfl, up_moreF o u (by omega) z⟩)
      · rintro r st' ⟨rfl, rfl, u⟩
        rw [show max x nrem = nrem by omega] at u ⊢
        exact ⟨rfl, nrem, rfl, h1, Nat.le_refl _, u⟩
      · rintro r st' ⟨rfl, y, rfl, y1, y2, u⟩
        dsimp only
        exact wpS_pure (h _ p5 y S5 B5 y1 y2 u K5)
end
end L2
namespace L2
open PySem PySem.W PyProof.Rows
section
variable {prog : Program} {w : World} {A : Around} {E : Value -> Shared -> Prop} {s : Shared} {κ : SortKind} {it : Array Keyed} {lt : Nat -> Nat -> Bool} {N : Nat}
inductive Rn (lt : Nat -> Nat -> Bool) (p : Array Nat) : Nat -> List (Nat × Nat × Nat) -> Nat -> Prop
  | nil (a : Nat) : Rn lt p a [] a
  | cons {a n pw b : Nat} {ps : List (Nat × Nat × Nat)} (h0 : 0 < n) (u : UpF lt p a n) (t : Rn lt p (a + n) ps b) : Rn lt p a ((a, n, pw) :: ps) b
theorem Rn.le {p : Array Nat} {a b : Nat} {ps : List (Nat × Nat × Nat)} (h : Rn lt p a ps b) : a + ps.length <= b := by
  induction h with
  | nil => exact Nat.le_refl _
  | cons h0 _ _ ih => simp at ih ⊢; omega
theorem Rn.app {p : Array Nat} {a b c : Nat} {ps qs : List (Nat × Nat × Nat)} (h : Rn lt p a ps b) (h2 : Rn lt p b qs c) : Rn lt p a (ps ++ qs) c := by
  induction h with
  | nil => exact h2
  | cons h0 u _ ih => exact .cons h0 u (ih h2)
theorem Rn.cut {p : Array Nat} {c : Nat} {qs : List (Nat × Nat × Nat)} : ∀ {ps : List (Nat × Nat × Nat)} {a : Nat}, Rn lt p a (ps ++ qs) c -> ∃ b, Rn lt p a ps b /\ Rn lt p b qs c
  | [], a, h => ⟨a, .nil a, h⟩
  | x :: ps, a, h => by
    cases h with
    | cons h0 u t =>
      obtain ⟨b, h1, h2⟩ := Rn.cut t
      exact ⟨b, .cons h0 u h1, h2⟩
theorem UpF.same {p p' : Array Nat} {a n : Nat} (h : UpF lt p a n) (e : ∀ i, a <= i -> i < a + n -> p'.getD i 0 = p.getD i 0) : UpF lt p' a n := fun i j hi hij hj => by
  rw [e i hi (by omega), e j (by omega) hj]; exact h i j hi hij hj
theorem Rn.same {p p' : Array Nat} {a b : Nat} {ps : List (Nat × Nat × Nat)} (h : Rn lt p a ps b) (e : ∀ i, a <= i -> i < b -> p'.getD i 0 = p.getD i 0) : Rn lt p' a ps b := by
  induction h with
  | nil => exact .nil _
  | cons h0 u t ih =>
    have := t.le
    exact .cons h0 (u.same fun i h1 h2 => e i h1 (by omega)) (ih fun i h1 h2 => e i (by omega) h2)
theorem Rn.mod {p : Array Nat} {b : Nat} {f : Nat × Nat × Nat -> Nat × Nat × Nat} (hf : ∀ x, (f x).1 = x.1 /\ (f x).2.1 = x.2.1) : ∀ {ps : List (Nat × Nat × Nat)} {a : Nat} (k : Nat), Rn lt p a ps b -> Rn lt p a (ps.modify k f) b
  | [], a, k, h => by cases k <;> exact h
  | x :: ps, a, 0, h => by
    cases h with
    | cons h0 u t =>
      rename_i n pw
      obtain ⟨e1, e2⟩ := hf (a, n, pw)
      have e : f (a, n, pw) = (a, n, (f (a, n, pw)).2.2) := Prod.ext e1 (Prod.ext e2 rfl)
      show Rn lt p a (f (a, n, pw) :: ps) b
      rw [e]
      exact .cons h0 u t
  | x :: ps, a, k + 1, h => by
    cases h with
    | cons h0 u t => exact .cons h0 u (Rn.mod hf k t)
theorem Rn.at {p : Array Nat} {a b i : Nat} {ps : List (Nat × Nat × Nat)} (h : Rn lt p a ps b) (hi : i + 1 < ps.length) : ∃ ps1 sa na w1 nb w2 ps2, ps = ps1 ++ (sa, na, w1) :: (sa + na, nb, w2) :: ps2 /\ ps1.length = i := by
  have e : ps = ps.take i ++ ps.drop i := (List.take_append_drop _ _).symm
  rw [e] at h
  obtain ⟨c, _, h2⟩ := Rn.cut h
  rw [List.drop_eq_getElem_cons (show i < ps.length by omega), List.drop_eq_getElem_cons hi] at h2 e
  generalize hx : ps[i] = x at h2 e
  generalize hy : ps[i + 1] = y at h2 e
  cases h2 with
  | cons h0 u t =>
    cases t with
    | cons h0' u' t' => exact ⟨ps.take i, _, _, _, _, _, _, e, by rw [List.length_take]; omega⟩
theorem getD_toList (p : Array Nat) (i : Nat) : p.getD i 0 = p.toList.getD i 0 := by rw [Array.getD_eq_getD_getElem?, List.getD_eq_getElem?_getD, Array.getElem?_toList]
theorem up_slice {p : Array Nat} {a n : Nat} (u : UpF lt p a n) (h : a + n <= p.size) : ((p.toList.drop a).take n).Pairwise (Le lt) := by
  rw [List.pairwise_iff_getElem]
  intro i j hi hj hij
  rw [List.length_take, List.length_drop] at hi hj
  rw [List.getElem_take, List.getElem_take, List.getElem_drop, List.getElem_drop]
  have g : ∀ k (hk : k < p.toList.length), p.toList[k] = p.getD k 0 := fun k hk => by rw [getD_toList, List.getD_eq_getElem?_getD, List.getElem?_eq_getElem hk]; rfl
  rw [g, g]
  exact u _ _ (by omega) (by omega) (by omega)
theorem mergeAt_runs {i lo sa na w1 sb nb w2 : Nat} {ps1 ps2 : List (Nat × Nat × Nat)} {p : Array Nat} {pd : Array (Nat × Nat × Nat)} {st : SortSt} {Q : Bool -> SortSt -> Prop} (c : Cmp prog w A κ it lt N s) (o : Ord lt) (B : PB N p) (S : StP κ it st p pd) (hpd : pd.toList = ps1 ++ (sa, na, w1) :: (sb, nb, w2) :: ps2) (hi : ps1.length = i)
    (R : Rn lt p 0 pd.toList lo) (hlo : lo <= N) (h : ∀ st' p' pd', StP κ it st' p' pd' -> PB N p' -> pd'.toList = ps1 ++ (sa, na + nb, w1) :: ps2 -> Rn lt p' 0 pd'.toList lo -> (∀ j, lo <= j -> p'.getD j 0 = p.getD j 0) -> Q true st') : wpS (model prog w) A E s (mergeAt' i) Q st := by
  rw [hpd] at R
  obtain ⟨b, R1, R2⟩ := Rn.cut R
  cases R2 with
  | cons a0 ua t =>
    cases t with
    | cons b0 ub R3 =>
      have l3 := R3.le
      have ps : p.size = N := B.size
      have pl : p.toList.length = N := by rw [Array.length_toList, ps]
      generalize hP : p.toList.take sa = P
      generalize hX : (p.toList.drop sa).take na = X
      generalize hY : (p.toList.drop (sa + na)).take nb = Y
      generalize hZ : p.toList.drop (sa + na + nb) = Z
      have lP : P.length = sa := by rw [<- hP, List.length_take]; omega
      have lX : X.length = na := by rw [<- hX, List.length_take, List.length_drop]; omega
      have lY : Y.length = nb := by rw [<- hY, List.length_take, List.length_drop]; omega
      have eL : p.toList = P ++ X ++ Y ++ Z := by
        rw [<- hP, <- hX, <- hY, <- hZ, List.append_assoc, List.append_assoc]
        conv => lhs; rw [<- List.take_append_drop sa p.toList]
        congr 1
        conv => lhs; rw [<- List.take_append_drop na (p.toList.drop sa)]
        congr 1
        rw [List.drop_drop]
        conv => lhs; rw [<- List.take_append_drop nb (p.toList.drop (sa + na))]
        congr 1
        rw [List.drop_drop]
      have sX : X.Pairwise (Le lt) := by rw [<- hX]; exact up_slice ua (by omega)
      have sY : Y.Pairwise (Le lt) := by rw [<- hY]; exact up_slice ub (by omega)
      have S' : StAt κ it st (P ++ X ++ Y ++ Z) pd := ⟨S.k, by rw [S.a, <- eL]; apply Array.toList_inj.mp; rw [Array.toList_map], S.p, S.f⟩
      have lN : ∀ x ∈ P ++ X ++ Y ++ Z, x < N := fun x hx => by
        rw [<- eL] at hx
        have := B.perm.mem_iff.mp (by simpa using hx)
        simpa using this
      have p1 : pd[i]? = some (P.length, X.length, w1) := by rw [<- Array.getElem?_toList, hpd, <- hi, lP, lX]; simp
      have p2 : pd[i + 1]? = some (P.length + X.length, Y.length, w2) := by rw [<- Array.getElem?_toList, hpd, <- hi, lP, lX, lY]; simp
      refine mergeAt_ok c o S' lN p1 p2 (by omega) (by omega) sX sY fun st' W SW pW sW => ?_
      have lW : W.length = na + nb := by rw [pW.length_eq, List.length_append, lX, lY]
      have pW' : (P ++ W ++ Z).Perm p.toList := by
        rw [eL, List.append_assoc (P ++ X) Y Z, List.append_assoc P X, List.append_assoc P W]
        refine List.Perm.append_left _ ?_
        rw [<- List.append_assoc]
        exact List.Perm.append_right _ pW
      have gD : ∀ j, ((P ++ W ++ Z).toArray).getD j 0 = (P ++ W ++ Z).getD j 0 := fun j => by rw [getD_toList]
      have keep : ∀ j, j < sa \/ sa + na + nb <= j -> ((P ++ W ++ Z).toArray).getD j 0 = p.getD j 0 := fun j hj => by
        rw [gD, getD_toList, eL, List.getD_eq_getElem?_getD, List.getD_eq_getElem?_getD]
        congr 1
        rcases hj with hj | hj
        · rw [List.append_assoc, List.append_assoc, List.append_assoc, List.getElem?_append_left (by omega), List.getElem?_append_left (by omega)]
        · rw [List.getElem?_append_right (by rw [List.length_append]; omega), List.getElem?_append_right (by rw [List.length_append, List.length_append]; omega)]
          congr 1
          rw [List.length_append, List.length_append, List.length_append]
          omega
      refine h st' (P ++ W ++ Z).toArray _ ⟨SW.k, by rw [SW.a]; simp, SW.p, SW.f⟩ ⟨?_⟩ ?_ ?_ (fun j hj => keep j (.inr (by omega)))
      · exact Array.Perm.trans (by rw [Array.perm_iff_toList_perm]; exact pW') B.perm
      · rw [Array.toList_eraseIdxIfInBounds, Array.toList_setIfInBounds, hpd, <- hi, lP, lX, lY]
        simp [List.eraseIdx_append_of_length_le]
      · rw [Array.toList_eraseIdxIfInBounds, Array.toList_setIfInBounds, hpd, <- hi, lP, lX, lY]
        have e : ((ps1 ++ (sa, na, w1) :: (sa + na, nb, w2) :: ps2).set ps1.length (sa, na + nb, w1)).eraseIdx (ps1.length + 1) = ps1 ++ (sa, na + nb, w1) :: ps2 := by
          simp [List.eraseIdx_append_of_length_le]
        rw [e]
        refine (R1.same fun j _ h2 => keep j (.inl h2)).app (.cons (by omega) ?_ ?_)
        · intro i j hi' hij hj
          rw [gD, gD]
          have gW : ∀ k, sa <= k -> k < sa + (na + nb) -> (P ++ W ++ Z).getD k 0 = W.getD (k - sa) 0 := fun k k1 k2 => by
            rw [List.getD_eq_getElem?_getD, List.getD_eq_getElem?_getD, List.append_assoc, List.getElem?_append_right (by omega), List.getElem?_append_left (by omega), lP]
          rw [gW i hi' (by omega), gW j (by omega) hj]
          by_cases e : i = j
          · subst e; exact o.rf _
          · have gE : ∀ k (hk : k < W.length), W.getD k 0 = W[k] := fun k hk => by rw [List.getD_eq_getElem?_getD, List.getElem?_eq_getElem hk]; rfl
            rw [gE (i - sa) (by omega), gE (j - sa) (by omega)]
            exact List.pairwise_iff_getElem.mp sW _ _ (by omega) (by omega) (by omega)
        · rw [<- Nat.add_assoc]
          exact R3.same fun j h1 _ => keep j (.inr h1)
end
end L2
namespace L2
open PySem PySem.W PyProof.Rows
section
variable {prog : Program} {w : World} {A : Around} {E : Value -> Shared -> Prop} {s : Shared} {κ : SortKind} {it : Array Keyed} {lt : Nat -> Nat -> Bool} {N : Nat}
theorem mergeAt_any {i lo : Nat} {p : Array Nat} {pd : Array (Nat × Nat × Nat)} {st : SortSt} {Q : Bool -> SortSt -> Prop} (c : Cmp prog w A κ it lt N s) (o : Ord lt) (B : PB N p) (S : StP κ it st p pd) (R : Rn lt p 0 pd.toList lo) (hlo : lo <= N) (hi : i + 1 < pd.size)
    (h : ∀ st' p' pd', StP κ it st' p' pd' -> PB N p' -> pd'.size = pd.size - 1 -> Rn lt p' 0 pd'.toList lo -> (∀ j, lo <= j -> p'.getD j 0 = p.getD j 0) -> Q true st') : wpS (model prog w) A E s (mergeAt' i) Q st := by
  obtain ⟨ps1, sa, na, w1, nb, w2, ps2, e1, e2⟩ := R.at (i := i) (by rw [Array.length_toList]; exact hi)
  refine mergeAt_runs c o B S e1 e2 R hlo fun st3 p3 pd3 S3 B3 e3 R3 k3 => h st3 p3 pd3 S3 B3 ?_ R3 k3
  have a1 : pd3.toList.length = pd3.size := Array.length_toList
  have a2 : pd.toList.length = pd.size := Array.length_toList
  rw [e3] at a1
  rw [e1] at a2
  simp at a1 a2
  omega
theorem sortRuns_ok {p : Array Nat} {st : SortSt} {Q : Unit -> SortSt -> Prop} (c : Cmp prog w A κ it lt N s) (o : Ord lt) (B : PB N p) (S : StP κ it st p #[]) (h2 : 2 <= N)
    (h : ∀ st' p' pd, StP κ it st' p' pd -> PB N p' -> UpF lt p' 0 N -> Q () st') : wpS (model prog w) A E s sortRuns' Q st := by
  refine wpS_bind (wpS_get ?_)
  have hs : (arrOf st).size = N := by rw [S.a, Array.size_map, B.size]
  dsimp only
  rw [hs]
  generalize minRun' N N 0 = mr
  refine wpS_bind (wpS_mono (wpS_forRange
    (I := fun x r st' => ∃ lo p' pd, r = (none, lo) /\ StP κ it st' p' pd /\ PB N p' /\ Rn lt p' 0 pd.toList lo /\ lo <= N /\ x <= lo)
    (Q := fun r st' => ∃ p' pd, r = (none, N) /\ StP κ it st' p' pd /\ PB N p' /\ Rn lt p' 0 pd.toList N) ?_ ?_ ⟨0, p, #[], rfl, S, B, .nil 0, by omega, by omega⟩) ?_)
  rotate_left
  · rintro r st' ⟨lo, p', pd, rfl, S', B', R', l1, l2⟩
    have : lo = N := by omega
    subst this
    exact ⟨p', pd, rfl, S', B', R'⟩
  · rintro r st' ⟨p', pd, rfl, S', B', R'⟩
    dsimp only
    refine wpS_bind (wpS_mono (wpS_forRange
      (I := fun x r st' => ∃ p' pd, r = (none, ()) /\ StP κ it st' p' pd /\ PB N p' /\ Rn lt p' 0 pd.toList N /\ pd.size + x <= N)
      (Q := fun r st' => ∃ p' pd, r = (none, ()) /\ StP κ it st' p' pd /\ PB N p' /\ Rn lt p' 0 pd.toList N /\ pd.size <= 1) ?_ ?_ ⟨p', pd, rfl, S', B', R', ?_⟩) ?_)
    · rintro x r st' _ hx ⟨p', pd, rfl, S', B', R', l1⟩
      rcases st' with ⟨kd, ar, pn, gl, fl⟩
      have ep : pn = pd := S'.p
      subst ep
      refine wpS_bind (wpS_get ?_)
      by_cases e : pn.size <= 1
      · exact wp_yes e (wpS_pure ⟨p', pn, rfl, S', B', R', e⟩)
      refine wp_no e ?_
      refine wpS_bind (mergeAt_any c o B' S' R' (Nat.le_refl _) ?_ fun st3 p3 pd3 S3 B3 l3 R3 _ => ?_)
      · dsimp only
        repeat' split
        all_goals omega
      · refine wp_no (by decide) (wpS_pure ⟨p3, pd3, rfl, S3, B3, R3, by omega⟩)
    · rintro r st' ⟨p', pd, rfl, S', B', R', l1⟩
      exact ⟨p', pd, rfl, S', B', R', by omega⟩
    · have := R'.le
      rw [Array.length_toList] at this
      omega
    · rintro r st' ⟨p', pd, rfl, S', B', R', l1⟩
      dsimp only
      refine wpS_pure (h _ p' pd S' B' ?_)
      generalize hl : pd.toList = ps at R'
      cases R' with
      | nil => omega
      | cons h0 u t =>
        cases t with
        | nil => rw [Nat.zero_add]; exact u
        | cons h0' u' t' =>
          have : pd.toList.length <= 1 := by rw [Array.length_toList]; exact l1
          rw [hl] at this
          simp at this
  rintro x r st' _ hx ⟨lo, p', pd, rfl, S', B', R', l1, l2⟩
  dsimp only
  by_cases e : lo >= N
  · have : lo = N := by omega
    subst this
    exact wp_yes e (wpS_pure ⟨p', pd, rfl, S', B', R'⟩)
  refine wp_no e (wpS_bind (count_ok c o B' S' (by omega) (by omega) fun st2 p2 n S2 B2 n1 n2 U2 K2 => ?_))
  dsimp only
  refine wp_ite (fun hm => ?_) (fun hm => ?_)
  case' refine_1 =>
    refine wpS_bind (wpS_lift (wpAny_rule ⟨rfl, ?_⟩))
    refine wpS_bind (binary_ok c o B2 S2 (by omega) (by omega) (by omega) U2 fun st3 p3 S3 B3 U3 K3' => ?_)
    refine wp_no (by decide) ?_
    have K3 : ∀ i, i < lo -> p3.getD i 0 = p'.getD i 0 := fun i hi => (K3' i hi).trans (K2 i hi)
    have n3 : 0 < min (N - lo) (minRun' N N 0) := by
      have : n < minRun' N N 0 := hm
      omega
    have n4 : lo + min (N - lo) (minRun' N N 0) <= N := by omega
  case' refine_2 =>
    have S3 := S2
    have B3 := B2
    have U3 := U2
    have K3 := K2
    generalize p2 = p3 at S3 B3 U3 K3
    generalize st2 = st3 at S3 ⊢
    have n3 : 0 < n := n1
    have n4 : lo + n <= N := by omega
  all_goals
    have R3 := R'.same (p' := p3) fun i _ hi => K3 i hi
    refine wpS_bind (wpS_get ?_)
    rw [show (pendingOf st3).back? = pd.back? by rw [S3.p]]
    have push : ∀ (st4 : SortSt) (p4 : Array Nat) (pd4 : Array (Nat × Nat × Nat)) (k : Nat), 0 < k -> lo + k <= N -> UpF lt p4 lo k -> StP κ it st4 p4 pd4 -> PB N p4 -> Rn lt p4 0 pd4.toList lo ->
        ∃ p' pd, StP κ it (setPending st4 ((pendingOf st4).push (lo, k, 0))) p' pd /\ PB N p' /\ Rn lt p' 0 pd.toList (lo + k) /\ lo + k <= N /\ x + 1 <= lo + k := fun st4 p4 pd4 k k1 k2 u4 S4 B4 R4 =>
      ⟨p4, pd4.push (lo, k, 0), ⟨S4.k, S4.a, by show (pendingOf st4).push _ = _; rw [S4.p], S4.f⟩, B4, by rw [Array.toList_push]; exact R4.app (.cons k1 u4 (.nil _)), k2, by omega⟩
    cases hb : pd.back? with
    | none =>
      dsimp only
      obtain ⟨p9, pd9, q1, q2, q3, q4, q5⟩ := push st3 p3 pd _ n3 n4 U3 S3 B3 R3
      exact wpS_bind (wpS_modify (wpS_pure ⟨_, p9, pd9, rfl, q1, q2, q3, q4, q5⟩))
    | some b =>
      obtain ⟨s1, m1, w1⟩ := b
      dsimp only
      refine wpS_bind (wpS_mono (wpS_forRange
        (I := fun _ r st' => ∃ p4 pd4, r = (none, ()) /\ StP κ it st' p4 pd4 /\ PB N p4 /\ Rn lt p4 0 pd4.toList lo /\ ∀ j, lo <= j -> p4.getD j 0 = p3.getD j 0)
        (Q := fun r st' => ∃ p4 pd4, r = (none, ()) /\ StP κ it st' p4 pd4 /\ PB N p4 /\ Rn lt p4 0 pd4.toList lo /\ ∀ j, lo <= j -> p4.getD j 0 = p3.getD j 0) ?_ (fun _ _ z => z) ⟨p3, pd, rfl, S3, B3, R3, fun _ _ => rfl⟩) ?_)
      · rintro y r st4 _ hy ⟨p4, pd4, rfl, S4, B4, R4, K4⟩
        rcases st4 with ⟨kd, ar, pn, gl, fl⟩
        have ep : pn = pd4 := S4.p
        subst ep
        refine wpS_bind (wpS_get ?_)
        dsimp only
        by_cases e5 : pn.size > 1
        · have e6 : pn[pn.size - 2]? = some pn[pn.size - 2] := Array.getElem?_eq_getElem (by omega)
          rw [if_pos e5, e6]
          generalize pn[pn.size - 2] = b6
          obtain ⟨b61, b62, b63⟩ := b6
          dsimp only
          refine wp_ite (fun _ => wpS_pure ⟨p4, pn, rfl, S4, B4, R4, K4⟩) (fun _ => ?_)
          refine wpS_bind (mergeAt_any c o B4 S4 R4 l1 (by omega) fun st5 p5 pd5 S5 B5 l5 R5 K5 => ?_)
          exact wp_no (by decide) (wpS_pure ⟨p5, pd5, rfl, S5, B5, R5, fun j hj => (K5 j hj).trans (K4 j hj)⟩)
        · rw [if_neg e5]
          exact wpS_pure ⟨p4, pn, rfl, S4, B4, R4, K4⟩
      · rintro r st4 ⟨p4, pd4, rfl, S4, B4, R4, K4⟩
        rcases st4 with ⟨kd, ar, pn, gl, fl⟩
        have ep : pn = pd4 := S4.p
        subst ep
        dsimp only
        refine wpS_bind (wpS_modify (wpS_bind (wpS_modify (wpS_pure ?_))))
        have U4 := U3.same (p' := p4) fun i h1 _ => K4 i h1
        refine ⟨_, p4, _, rfl, ⟨S4.k, S4.a, rfl, S4.f⟩, B4, ?_, n4, by omega⟩
        dsimp only
        rw [Array.toList_push, Array.toList_modify]
        refine Rn.app (Rn.mod ?_ _ R4) (.cons n3 U4 (.nil _))
        intro z
        exact ⟨rfl, rfl⟩
end
end L2
namespace L2
open PySem PySem.W PyProof.Rows
section
variable {prog : Program} {w : World} {A : Around} {E : Value -> Shared -> Prop} {s : Shared}
theorem sort_bodyG {a : Addr} {vs : List Value} {n : Nat} {lt : Nat -> Nat -> Bool} {P : PySem.Fin -> Shared -> Prop} (ho : s.heap.get? a = some (seqObj "list" vs.toArray n)) (o : Ord lt) (hbig : vs.length <= 1000000)
    (ask : 2 <= vs.length -> ∀ h', (∀ b u, b ≠ a -> s.heap.get? b = some u -> h'.get? b = some u) -> ∃ κ : SortKind, (∀ (E : Value -> Shared -> Prop) (Q : SortKind -> Shared -> Prop), Q κ { s with heap := h' } -> wpAny (model prog w) A (keyKind' vs.toArray) Q E { s with heap := h' }) /\
      ∀ (i j : Nat) (C : Bool -> Shared -> Prop), i < vs.length -> j < vs.length -> C (lt i j) { s with heap := h' } -> wpAny (model prog w) A (keyLt' κ (vs.getD i Value.none) (vs.getD j Value.none)) C (fun _ _ => False) { s with heap := h' })
    (q : ∀ p, PB vs.length p -> Up lt p vs.length -> P (.done (.ret .none)) { s with heap := sortedHeap s.heap a vs (outOf vs p).toArray }) : wpAny (model prog w) A (Builtin.«list.sort» ⟨[.ref a], []⟩) P E s := by
  rw [list_sort_plain]
  have la : a < s.heap.objs.size := Heap.lt_size ho
  have zs : vs.length <= sizeLine := by rw [sizeLine_eq]; omega
  refine wpAny_bind (listItems_at ho rfl (wpAny_bind (listUpdate_at ho rfl ?_ (by rw [List.size_toArray]; exact zs) (Nat.zero_le _))))
  obtain ⟨e1, o1⟩ : ∃ e1, (s.heap.update a (Obj.mapSeq fun _ => (#[] : Array Value))).get? a = some (seqObj "list" #[] e1) := ⟨_, get?_update_seq ho fun _ => #[]⟩
  refine wpAny_bind (seqEpoch_at o1 rfl (wpAny_bind (wpAny_newTuple (wpAny_bind (wpAny_newList (wpAny_holding ?_) (Nat.zero_le _))) (by show vs.length <= _; exact zs))))
  have sb := Heap.SameBut.update s.heap a (Obj.mapSeq fun _ => (#[] : Array Value))
  have keep : ∀ b u, b ≠ a -> s.heap.get? b = some u -> (((s.heap.update a (Obj.mapSeq fun _ => #[])).push (seqObj "tuple" vs.toArray 0)).push (seqObj "list" #[] 0)).get? b = some u := fun b u hb z =>
    Heap.get?_push_of_some _ (Heap.get?_push_of_some _ ((sb.2 b hb).trans z))
  have o6 : (((s.heap.update a (Obj.mapSeq fun _ => #[])).push (seqObj "tuple" vs.toArray 0)).push (seqObj "list" #[] 0)).get? a = some (seqObj "list" #[] e1) := Heap.get?_push_of_some _ (Heap.get?_push_of_some _ o1)
  show wpAny (model prog w) A _ P E { s with heap := ((s.heap.update a (Obj.mapSeq fun _ => (#[] : Array Value))).push (seqObj "tuple" vs.toArray 0)).push (seqObj "list" #[] 0) }
  dsimp only
  have fin : ∀ (st : SortSt) (out : List Value), (arrOf st).map (·.2) = out.toArray -> out.length = vs.length -> failedOf st = none -> P (.done (.ret .none)) { s with heap := sortedHeap s.heap a vs out.toArray } ->
      wpAny (model prog w) A (do
        let touched := (<- seqEpoch a) != e1
        Builtin.List.listUpdate (.ref a) fun _ => (arrOf st).map (·.2)
        if let some e := failedOf st then rule "list.sort.comparison-raised"; throw e
        if touched then rule "list.sort.modified"; raiseError "ValueError" "list modified during sort"
        ret .none) P E { s with heap := ((s.heap.update a (Obj.mapSeq fun _ => (#[] : Array Value))).push (seqObj "tuple" vs.toArray 0)).push (seqObj "list" #[] 0) } := by
    intro st out eo el ef qq
    refine wpAny_bind (seqEpoch_at o6 rfl ?_)
    rw [eo]
    refine wpAny_bind (listUpdate_at o6 rfl ?_ (Nat.zero_le _) (by show out.toArray.size <= _; rw [List.size_toArray, el, sizeLine_eq]; omega))
    rw [ef]
    simp only [bne_self_eq_false, Bool.false_eq_true, if_false]
    exact wpAny_pure qq
  by_cases two : vs.length >= 2
  · have hn2 : ¬ vs.toArray.size < 2 := by rw [List.size_toArray]; omega
    rw [if_neg hn2, if_neg hn2]
    obtain ⟨κ, kk, cc⟩ := ask two _ keep
    have hit : ∀ i, i < vs.length -> (kas_item (vs.toArray.zip vs.toArray) i).1 = vs.getD i Value.none := fun i hi => by simp [kas_item, Array.getD, List.getD, hi]
    refine wpAny_bind (kk _ _ ?_)
    have C : Cmp prog w A κ (vs.toArray.zip vs.toArray) lt vs.length { s with heap := ((s.heap.update a (Obj.mapSeq fun _ => (#[] : Array Value))).push (seqObj "tuple" vs.toArray 0)).push (seqObj "list" #[] 0) } := fun i j C hi hj hC => by
      unfold kas_cmp
      rw [hit i hi, hit j hj]
      exact cc i j C hi hj hC
    have S0 : StP κ (vs.toArray.zip vs.toArray) (SortSt.mk' κ (vs.toArray.zip vs.toArray) #[] 7 none) (List.range vs.length).toArray #[] := by
      refine ⟨rfl, ?_, rfl, rfl⟩
      show vs.toArray.zip vs.toArray = _
      apply Array.ext (by simp)
      intro i h1 h2
      simp at h1
      simp [kas_item, Array.getD, h1]
    refine wpAny_bind (wpAny_mono (sortRuns_ok (E := E) (Q := fun _ st' => ∃ p, PB vs.length p /\ Up lt p vs.length /\ arrOf st' = p.map (kas_item (vs.toArray.zip vs.toArray)) /\ failedOf st' = none) C o ⟨Array.Perm.refl _⟩ S0 two fun st' p' pd S' B' U' => ⟨p', B', fun i j hij hj => U' i j (Nat.zero_le _) hij (by omega), S'.a, S'.f⟩) ?_ fun _ _ x => x)
    rintro ⟨⟨⟩, st'⟩ s' ⟨rfl, p, pb, up, ea, ef⟩
    exact fin st' (outOf vs p) (kat_snds rfl ea) (by unfold outOf; rw [List.length_map, Array.length_toList, pb.size]) ef (q p pb up)
  · have hn2 : vs.toArray.size < 2 := by rw [List.size_toArray]; omega
    rw [if_pos hn2, if_pos hn2]
    refine wpAny_bind (wpAny_pure ?_)
    rw [StateT.run_pure]
    refine wpAny_bind (wpAny_pure ?_)
    refine fin (SortSt.mk' general' (vs.toArray.zip vs.toArray) #[] 7 none) (outOf vs (List.range vs.length).toArray) ?_ (by rw [sort_one two]) rfl (q _ ⟨Array.Perm.refl _⟩ ?_)
    · rw [sort_one two]; exact zip_snd vs
    · intro i j hij hj
      have : i = j := by omega
      subst this; exact o.rf _
theorem sorted_genG {l : Addr} {vs : List Value} {lt : Nat -> Nat -> Bool} {Q : Value -> Shared -> Prop} (hl : s.heap.IsList l vs.toArray) (o : Ord lt) (hbig : vs.length <= 1000000) (ask : Asks prog w s lt vs)
    (q : ∀ p, PB vs.length p -> Up lt p vs.length -> Q (.ref (s.heap.objs.size + 1)) { s with heap := sortedAll s.heap vs (outOf vs p).toArray }) : wpAny (model prog w) A (call (.builtin "sorted") [.ref l]) Q E s := by
  refine Calls.call_function_entry kind_sorted plain_sorted entry_sorted (args_sorted1 _) ?_
  unfold Builtin.«sorted»
  refine wpAny_bind (m := checkCount "sorted" 1 1 _) (wpAny_pure (wpAny_bind (collect_list hl (wpAny_bind (wpAny_newList ?_ (by rw [sizeLine_eq]; omega))) (by rw [sizeLine_eq]; omega))))
  have z1 : ((s.heap.push (seqObj "list" #[] 0)).update s.heap.objs.size (Obj.mapSeq (· ++ vs.toArray))).objs.size = s.heap.objs.size + 1 := by rw [Heap.size_update, size_push']
  have oL : (((s.heap.push (seqObj "list" #[] 0)).update s.heap.objs.size (Obj.mapSeq (· ++ vs.toArray))).push (seqObj "list" vs.toArray 0)).get? (s.heap.objs.size + 1) = some (seqObj "list" vs.toArray 0) := by
    rw [<- z1]; exact Heap.get?_push_size _ rfl
  have keep : ∀ b u, s.heap.get? b = some u -> (((s.heap.push (seqObj "list" #[] 0)).update s.heap.objs.size (Obj.mapSeq (· ++ vs.toArray))).push (seqObj "list" vs.toArray 0)).get? b = some u := fun b u z => by
    have lb : b < s.heap.objs.size := Heap.lt_size z
    exact Heap.get?_push_of_some _ (by rw [Heap.get?_update_ne _ _ _ _ (Nat.ne_of_lt lb)]; exact Heap.get?_push_of_some _ z)
  show wpAny _ _ _ _ _ { s with heap := ((s.heap.push (seqObj "list" #[] 0)).update s.heap.objs.size (Obj.mapSeq (· ++ vs.toArray))).push (seqObj "list" vs.toArray 0) }
  rw [z1]
  refine wpAny_bind (wpAny_holding (wpAny_call_entry slot_list_sort ⟨_, oL, rfl⟩ entry_list_sort (sort_bodyG oL o hbig (fun two h' k => ask _ h' (fun b u z => k b u (fun e => ?_) (keep b u z)) two) fun p pb up => ⟨_, rfl, ?_⟩) (args_list_sort _)))
  · exact absurd (Heap.lt_size z) (by rw [e]; exact Nat.not_lt.mpr (Nat.le_succ _))
  · exact wpAny_pure ⟨_, rfl, q p pb up⟩
end
end L2
namespace L2
open PySem PySem.W PyProof.Rows
section
variable {X : Cx}
def rSortedG (K : PySem.W.Frag) : List V -> Hp -> VK -> Prop := fun xs H Q => ∃ (p : Addr) (rs : List V) (kss : List (List Int)), xs = [.ref p] /\ SqL K H p rs /\ rs.length <= 1000000 /\ Paired (IntsAt H) rs kss /\ (∀ ks ∈ kss, ks ≠ []) /\
  ∀ (l : Addr) (rs' : List V) (kss' : List (List Int)), Paired (IntsAt H) rs' kss' -> kss'.Perm kss -> kss'.Pairwise LexLe -> H l = none -> Q (.ref l) (upd H l (.lst rs'))
theorem call_sortedG : CallR X (.builtin "sorted") (rSortedG X.K) := by
  intro pins s σ H xs us Q I r h
  obtain ⟨p, rs, kss, rfl, hp, hn, hk, hne, q⟩ := h
  obtain ⟨u, rfl, ru⟩ := Vals.one r
  cases (show u = Value.ref p from ru)
  obtain ⟨its, r1, t1, _⟩ := I.list hp
  have hl : its.length = rs.length := r1.length.symm
  have kl : rs.length = kss.length := Paired.length hk
  have tup : ∀ i, i < rs.length -> ∃ a ks, rs.getD i .non = .ref a /\ kss.getD i [] = ks /\ its.getD i Value.none = .ref a /\ H a = some (.tup (ks.map V.int)) := fun i hi => by
    obtain ⟨ks, e, a, ea, ha⟩ := Paired.at hk (i := i) (a := rs[i]) (by simp [hi])
    obtain ⟨v, ev, rv⟩ := r1.get (i := i) (x := rs[i]) (by simp [hi])
    rw [ea] at rv
    refine ⟨a, ks, by simp [hi, ea], by rw [List.getD_eq_getElem?_getD, e]; rfl, ?_, ha⟩
    rw [List.getD_eq_getElem?_getD, ev]
    exact rv
  have tups : Paired (TupI s.heap) its kss := by
    have e1 := range_getD its Value.none
    have e2 := range_getD kss []
    rw [hl] at e1
    rw [<- kl] at e2
    rw [<- e1, <- e2]
    refine paired_map fun i hi => ?_
    obtain ⟨a, ks, _, e4, e5, e6⟩ := tup i (List.mem_range.mp hi)
    obtain ⟨_, us, ru, o, g, hc, n, hd⟩ := I.hok a _ e6
    rw [e4, e5]
    exact ⟨a, o, us.toArray, n, rfl, g, hc, hd, by simpa using intsAre_of ru⟩
  refine sorted_genG t1.isList (lex_ord kss) (by omega) (asks_tups tups hne) fun pm pb up => ?_
  obtain ⟨e, he⟩ := sortedAll_at s.heap its (outOf its pm).toArray
  have fr : s.heap.objs.size <= s.heap.objs.size + 1 := Nat.le_succ _
  have pl : ∀ i ∈ pm.toList, i < rs.length := fun i hi => by
    have := pb.list.mem_iff.mp hi
    rw [List.mem_range, hl] at this
    exact this
  have ls : pm.toList.length = rs.length := by rw [Array.length_toList, pb.size, hl]
  refine ⟨.ref (s.heap.objs.size + 1), upd H (s.heap.objs.size + 1) (.lst (pm.toList.map fun i => rs.getD i .non)), I.laid (t' := s.toks) (fun b o z => sortedAll_old z) fr ?_, rfl,
    q _ _ (pm.toList.map fun i => kss.getD i []) (paired_map fun i hi => ?_) ?_ ?_ (I.hok.fresh fr)⟩
  · refine ⟨?_, outOf its pm, e, paired_map fun i hi => ?_, he⟩
    · rw [List.length_map, ls, sizeLine_eq]; omega
    · obtain ⟨a, ks, e3, e4, e5, e6⟩ := tup i (pl i hi)
      rw [e3, e5]
      exact rfl
  · obtain ⟨a, ks, e3, e4, e5, e6⟩ := tup i (pl i hi)
    rw [e3, e4]
    exact ⟨a, rfl, e6⟩
  · have := pb.list.map fun i => kss.getD i []
    rw [hl, kl, range_getD] at this
    exact this
  · rw [List.pairwise_iff_getElem]
    intro i j hi hj hij
    rw [List.length_map] at hi hj
    have := up i j (by omega) (by rw [hl]; omega)
    simp only [List.getElem_map, Array.getElem_toList]
    have gi : pm.getD i 0 = pm[i] := by simp [Array.getD, show i < pm.size by rw [<- Array.length_toList]; exact hi]
    have gj : pm.getD j 0 = pm[j] := by simp [Array.getD, show j < pm.size by rw [<- Array.length_toList]; exact hj]
    rw [gi, gj] at this
    exact this
end
end L2
namespace L2
open PySem PySem.Spec PyProof.Rows
theorem sqT {K : PySem.W.Frag} {H H' : Hp} {a : Addr} {xs : List V} (e : Same H H') (h : SqT K H a xs) : SqT K H' a xs := e.seqK (k := .t) h
section
variable {X : Cx}
end
end L2
namespace L2
open PySem PySem.W PyProof.Rows
section
variable {X : Cx}
end
section
variable {prog : Program} {w : World} {A : Around}
end
section
variable {X : Cx}
end
end L2
namespace L2
open PySem PySem.Spec PyProof.Rows
section
variable {X : Cx}
end
end L2
namespace L2
open PySem PySem.W PyProof.Rows
section
variable {prog : Program} {w : World} {d : Addr} {es : Array DictEntry} {ep : Nat} {o : Obj}
end
section
variable {X : Cx}
end
end L2
namespace L2
open PySem PySem.Spec PyProof.Rows
section
variable {X : Cx}
def rInsert : V -> List V -> Hp -> VK -> Prop := fun x vs H Q => ∃ (l : Addr) (xs : List V) (i : Nat) (y : V), x = .ref l /\ vs = [.int (i : Int), y] /\ H l = some (.lst xs) /\ i <= xs.length /\ xs.length < 1000 /\ Q .non (upd H l (.lst (xs.take i ++ y :: xs.drop i)))
theorem vals_take {xs : List V} {us : List Value} (r : Vals xs us) (i : Nat) : Vals (xs.take i) (us.take i) := by
  induction r generalizing i with
  | nil => simp; exact .nil
  | cons a t ih =>
    cases i with
    | zero => exact .nil
    | succ i => exact .cons a (ih i)
theorem vals_drop {xs : List V} {us : List Value} (r : Vals xs us) (i : Nat) : Vals (xs.drop i) (us.drop i) := by
  induction r generalizing i with
  | nil => simp; exact .nil
  | cons a t ih =>
    cases i with
    | zero => exact .cons a t
    | succ i => exact ih i
theorem mt_insert : MtM X "list.insert" rInsert := by
  intro pins s σ H x vs v us Q I rx rv h
  obtain ⟨l, xs, i, y, rfl, rfl, hH, hi, hz, q⟩ := h
  cases rx
  obtain ⟨u1, u2, rfl, r1, r2⟩ := Vals.two rv
  obtain ⟨t, rfl⟩ := r1
  obtain ⟨z, its, n, r, hl, e⟩ := I.lstM hH
  have sl : (1000 : Nat) <= sizeLine := by decide
  have hs : its.toArray.size <= sizeLine := by rw [List.size_toArray, <- hl]; exact z
  have fin : ∀ ii : Int, ii = (i : Int) -> wpAny (model X.prog X.w) X.A (call (.builtin "list.insert") [.ref l, .int ii t, u2]) (EP X pins σ Q) X.xe s := by
    intro ii hii
    have hfit : ¬(!Builtin.List.listFitsIndex ii) = true := by
      unfold Builtin.List.listFitsIndex
      simp
      omega
    refine call_meets F.slot_list_insert ⟨_, e, rfl⟩ F.entry_list_insert (F.args_list_insert_3 _ _ _) (AutoSeq1.list_insert_list_int_val_1 l its.toArray n ii t u2 hfit hs) ⟨e, ?_⟩
    refine ⟨.non, _, I.lset (its' := its.take i ++ u2 :: its.drop i) hH e ?_ ((vals_take r i).append (.cons r2 (vals_drop r i))) ?_, rfl, q⟩
    · dsimp only
      rw [if_neg (by omega), show ii.toNat = i by omega, List.size_toArray, Nat.min_eq_left (by omega)]
      apply Array.ext'
      simp
      exact List.take_of_length_le (by rw [List.length_drop]; exact Nat.le_refl _)
    · rw [List.length_append, List.length_cons, List.length_take, List.length_drop]
      omega
  exact fin _ rfl
end
end L2
namespace L2
open PySem PySem.Spec PyProof.Rows PySem.MeetsSeq
section
variable {X : Cx}
end
end L2
namespace L2
open PySem PySem.Spec PyProof.Rows PySem.MeetsSeq
section
variable {X : Cx}
variable {o e : Expr} {es : List Expr} {to : TE} {t : TA} {name : Str} {apos cpos : Pos} {id : String} {r : V -> List V -> Hp -> VK -> Prop}
end
end L2
namespace HT
open PySem PySem.Spec PyProof.Rows
section
variable {prog : Program} {w : World} {A : Around} {E : Value -> Shared -> Prop} {s : Shared}
end
end HT
namespace L2
open PySem PySem.Spec PyProof.Rows
section
variable {X : Cx}
end
end L2
namespace L2
open PySem PySem.Spec PyProof.Rows
section
open PySem.SeqAt
open PySem.AutoSeq1 (wpAny_loadPart')
open PySem.MeetsSeq PySem.MeetsSeq2 PySem.MeetsSeq3
end
end L2
namespace L2
open PySem PySem.W PyProof.Rows
section
variable {prog : Program} {w : World} {A : Around} {E : Value -> Shared -> Prop} {s : Shared}
end
section
variable {X : Cx}
end
end L2
namespace L2
open PySem PySem.Spec PyProof.Rows
section
variable {env : Env} {C : Addr} {names : List (Str × NameKind)} {x : Str} {d : Addr}
end
section
variable {X : Cx} {scope : Scope} {N' : List Str} {fr : List (Option Nat)} {pins : List (Addr × Obj)} {σ : St} {H : Hp} {s : Shared} {fp : List Addr}
end
section
variable {X : Cx} {scope : Scope} {N' : List Str} {fr : List (Option Nat)} {pins : List (Addr × Obj)} {σ : St} {H : Hp} {s : Shared} {fp : List Addr} {it : Addr} {tn : Nat -> Heap -> Prop} {J : It}
  {elt tg iter : Expr} {ifs : List Expr} {g : TG} {tt : TT} {te : TE} {pos : Pos} {fin : List V -> Hp -> Prop} {W : Nat -> Nat -> List V -> St -> Hp -> Prop} {RR : Value -> Addr -> Result -> Shared -> Prop} {E : Value -> Shared -> Prop}
end
end L2
namespace L2
open PySem PySem.Spec PyProof.Rows PySem.MeetsSeq PySem.AutoSeq1
end L2
namespace L2
open PySem PySem.Spec PyProof.Rows
section
variable {X : Cx}
end
def rLenK (K : PySem.W.Frag) : List V -> Hp -> VK -> Prop := fun xs H Q => ∃ p ys, xs = [.ref p] /\ (SqL K H p ys \/ SqT K H p ys) /\ Q (.int ys.length) H
def rIsiK (K : PySem.W.Frag) : List V -> Hp -> VK -> Prop := fun xs H Q => ∃ x c t u b, xs = [x, c] /\ RelV c u /\ TyOf K H x t /\ PySem.W.kitOne K t u = some b /\ Q (.bl b) H
def rTupOfK (K : PySem.W.Frag) : List V -> Hp -> VK -> Prop := fun xs H Q => ∃ p ys, xs = [.ref p] /\ ((SqL K H p ys /\ ∀ l, H l = none -> Q (.ref l) (upd H l (.tup ys))) \/ (SqT K H p ys /\ Q (.ref p) H))
theorem seq_abs {A B : TS} {D : Ends} {σ : St} {H : Hp} (h : ∀ M : St -> Hp -> Prop, (∀ σ H, B D σ H -> M σ H) -> A { D with nx := M } σ H) : tSeq A B D σ H := h _ fun _ _ z => z
section
variable {X : Cx} (K : PySem.W.Frag)
theorem ix_listK (h : X.K = K := by rfl) : IxR X (rIxL K) := h ▸ ix_list
theorem ix_tupK (h : X.K = K := by rfl) : IxR X (rIxT K) := h ▸ ix_tup
theorem sl_listK (h : X.K = K := by rfl) : SlR X (rSlL K) := h ▸ sl_list
theorem sl_tupK (h : X.K = K := by rfl) : SlR X (rSlT K) := h ▸ sl_tup
theorem call_lenK (h : X.K = K := by rfl) : CallR X (.builtin "len") (rLenK K) := h ▸ call_len_seq
theorem call_isiK (h : X.K = K := by rfl) : CallR X (.builtin "isinstance") (rIsiK K) := h ▸ call_isinst
theorem call_tuple_ofK (h : X.K = K := by rfl) : CallR X (.type "tuple") (rTupOfK K) := h ▸ call_tuple_of
theorem op_eqNilK (hu : X.A.units + 66 < cLine) (h : X.K = K := by rfl) : OpR X (compareOp .Eq) (rNil K false) := h ▸ op_eqNil hu
theorem op_eqSK (hu : X.A.units + 66 < cLine) (h : X.K = K := by rfl) : OpR X (compareOp .Eq) (rSame K true) := h ▸ op_eqS hu
theorem op_geTK (hu : X.A.units + 66 < cLine) (h : X.K = K := by rfl) : OpR X (compareOp .GtE) (rGeT K) := h ▸ op_geT hu
theorem pi_seqK {tg : Expr} (k : Kd) {l : Expr} {tl : TE} (hl : PE X l tl) (h : X.K = K := by rfl) : PI X tg l (iSeq k K tl) := h ▸ pi_seq k hl
theorem pg_tupK (n : Nat) {es : List Expr} {k : Nat} {t : TGs} {pos : Pos} (hc : X.calm = true) (h : PGs X es t)
    (hn : (assignEach es X.env).length = n := by rfl) (hst : (assignEach es X.env).findIdx? (·.1) = none := by rfl) (hK : X.K = K := by rfl) : PG X (.Tuple es k pos) (gTup K n t) := hK ▸ pg_tup hc h hn hst
end
section
variable {X : Cx}
end
section
variable {X : Cx}
end
section
variable {X : Cx} {m : Str} {apos pos : Pos} {o : Expr} {ta : TE}
end
section
variable {X : Cx}
end
section
variable {X : Cx}
end
end L2
namespace L2
open PySem PySem.W PyProof.Rows
section
variable {X : Cx}
def rStarts : V -> List V -> Hp -> VK -> Prop := fun x vs H Q => ∃ (z y : Str), x = .str z /\ vs = [.str y] /\ Q (.bl (Txt.startswith z y)) H
theorem mt_starts : MtR X "str.startswith" rStarts := by
  intro pins s σ H x xs v us Q I rx r h
  obtain ⟨z, y, rfl, rfl, q⟩ := h
  obtain ⟨t, rfl⟩ := rx
  obtain ⟨u, rfl, ru⟩ := Vals.one r
  obtain ⟨t', rfl⟩ := ru
  exact call_gives F.slot_str_startswith (typeIs_str _ _ _) F.entry_str_startswith (F.args_str_startswith_2 _ _) (gives_str_startswith z y t t') ⟨.bl _, H, I, rfl, q⟩
def rSlS : V -> Option Int -> Option Int -> Hp -> VK -> Prop := fun x lo hi H Q => ∃ z, x = .str z /\ z.length <= sizeLine /\ Q (.str (Txt.slice z lo hi)) H
theorem sl_str : SlR X rSlS := by
  intro pins s σ H x v vl vu lo hi sl Q I rx hs pl pu h
  obtain ⟨z, rfl, hz, q⟩ := h
  obtain ⟨t, rfl⟩ := rx
  have key : ∀ (l u : Option (Int × Tok)), s.heap.IsSlice sl l u none -> l.map (·.1) = lo -> u.map (·.1) = hi -> wpAny (model X.prog X.w) X.A (getItem (.str z t) (.ref sl)) (EP X pins σ Q) X.xe s := fun l u hs' e1 e2 => by
    subst e1 e2
    exact wpAny_getItem_str_slice (l := l) (u := u) (st := none) hs' rfl (post_val_or_str ⟨Nat.le_trans (Txt.slice_le z _ _) hz, fun t' k => ⟨.str _, H, I.tok _, ⟨_, rfl⟩, q⟩⟩)
  refine ⟨"str", _, F.slot_str_getitem.lookup, typeIs_str _ _ _, ?_⟩
  obtain ⟨o, h1, h2, h3⟩ := hs
  cases pl with
  | none => cases pu with
    | none => exact key none none ⟨o, h1, h2, h3⟩ rfl rfl
    | int j uj => exact key none (some (j, uj)) ⟨o, h1, h2, h3⟩ rfl rfl
  | int i ui => cases pu with
    | none => exact key (some (i, ui)) none ⟨o, h1, h2, h3⟩ rfl rfl
    | int j uj => exact key (some (i, ui)) (some (j, uj)) ⟨o, h1, h2, h3⟩ rfl rfl
def SplitIs (z y : Str) (ps : List Str) : Prop := ((z.length < y.length /\ ps = [z]) \/ (¬ z.length < y.length /\ Builtin.Str.partsBetween z (Builtin.Str.occurrences z y 0 z.length (z.length + 1)) y.length = ps))
def rSplitG : V -> List V -> Hp -> VK -> Prop := fun x vs H Q => ∃ (z y : Str) (ps : List Str), x = .str z /\ vs = [.str y] /\ Builtin.Str.strKind y = 1 /\ (y.length == 0) = false /\ z.length <= 100000 /\ ps.length <= 100000 /\ SplitIs z y ps /\ ∀ p, H p = none -> Q (.ref p) (upd H p (.lst (ps.map V.str)))
theorem mt_splitG : MtR X "str.split" rSplitG := by
  intro pins s σ H x xs v us Q I rx r h
  obtain ⟨z, y, ps, rfl, rfl, hk, hy, hz, hn', sp, q⟩ := h
  obtain ⟨t, rfl⟩ := rx
  obtain ⟨u, rfl, ru⟩ := Vals.one r
  obtain ⟨t', rfl⟩ := ru
  have zl : z.length <= sizeLine := Nat.le_trans hz (by decide)
  have hn : ps.length <= sizeLine := Nat.le_trans hn' (by decide)
  have fr : H s.heap.objs.size = none := I.hok.fresh (Nat.le_refl _)
  have fin : ∀ (l : List (Str × Tok)) (tk : Nat), l.map (·.1) = ps -> EP X pins σ Q (.ref s.heap.objs.size) { s with heap := s.heap.push { cls := .type "list", data := .seq (strValues l).toArray }, toks := tk } := fun l tk e => by
    have el : (l.map fun p => V.str p.1) = ps.map V.str := by
      have := congrArg (List.map V.str) e
      simpa [List.map_map, Function.comp_def] using this
    have rv := strs_vals l
    rw [el] at rv
    refine ⟨.ref s.heap.objs.size, upd H s.heap.objs.size (.lst (ps.map V.str)), I.laid (fun b o e => Heap.get?_push_of_some _ e) (Nat.le_refl _) ?_, rfl, q _ fr⟩
    exact ⟨by rw [List.length_map]; exact hn, _, 0, rv, Heap.get?_push_size _ rfl⟩
  by_cases h1 : (decide (z.length < y.length) || decide (Builtin.Str.strKind z < Builtin.Str.strKind y)) = true
  · have zy : z.length < y.length := by
      rw [Bool.or_eq_true, decide_eq_true_eq, decide_eq_true_eq, hk] at h1
      rcases h1 with h1 | h1
      · exact h1
      · exact absurd (kind_ge z) (by lia)
    have ez : ps = [z] := by
      rcases sp with ⟨_, e⟩ | ⟨n, _⟩
      · exact e
      · exact absurd zy n
    refine call_meets F.slot_str_split (typeIs_str _ _ _) F.entry_str_split (F.args_str_split_2 _ _) (meets_str_split_cannot_occur z y t t' h1) ?_
    exact fin [(z, t)] _ ez.symm
  · have h1' := Bool.eq_false_iff.mpr h1
    have zy : ¬ z.length < y.length := fun e => h1 (by rw [decide_eq_true e]; rfl)
    have ep : Builtin.Str.partsBetween z (Builtin.Str.occurrences z y 0 z.length (z.length + 1)) y.length = ps := by
      rcases sp with ⟨e, _⟩ | ⟨_, e⟩
      · exact absurd e zy
      · exact e
    cases hf : (Builtin.Str.occurrences z y 0 z.length (z.length + 1)).isEmpty with
    | true =>
      refine call_meets F.slot_str_split (typeIs_str _ _ _) F.entry_str_split (F.args_str_split_2 _ _) (meets_str_split_not_found z y t t' h1' hy hf) ?_
      refine fin [(z, t)] _ ?_
      rw [<- ep, List.isEmpty_iff.mp hf]
      show [z] = [Builtin.Str.strSub z 0 z.length]
      unfold Builtin.Str.strSub
      congr 1
      cases z
      simp [Str.length]
    | false =>
      refine call_meets F.slot_str_split (typeIs_str _ _ _) F.entry_str_split (F.args_str_split_2 _ _) (meets_str_split_sep z y t t' h1' hy hf zl (by rw [ep]; exact hn)) ?_
      rw [strsFrom_eq]
      refine fin (numbered s.toks _) _ ?_
      rw [numbered_texts]
      exact ep
end
end L2
namespace L2
open PySem PySem.W PyProof.Rows
section
variable {prog : Program} {w : World} {A : Around} {E : Value -> Shared -> Prop} {s : Shared}
theorem zip_done2 {k1 k2 : Kd} {z TI TO i1 i2 l1 l2 : Addr} {n : Nat} {xs ys : List Value} {x : Value} {Q : Option Value -> Shared -> Prop} (hh : A.handled = none) (D : ZipNe z TI TO i1 i2) (Z : ZipAt s.heap k1 k2 z TI TO i1 i2 l1 l2 .none n)
    (L1 : ∀ h', (∀ b o, b ≠ z -> b ≠ TO -> b ≠ i1 -> b ≠ i2 -> s.heap.get? b = some o -> h'.get? b = some o) -> SeqIs k1 h' l1 xs) (L2 : ∀ h', (∀ b o, b ≠ z -> b ≠ TO -> b ≠ i1 -> b ≠ i2 -> s.heap.get? b = some o -> h'.get? b = some o) -> SeqIs k2 h' l2 ys) (hx : xs[n]? = some x) (hy : ys.length <= n)
    (q : ∀ h', (∀ c o, c ≠ z -> c ≠ TO -> c ≠ i1 -> c ≠ i2 -> s.heap.get? c = some o -> h'.get? c = some o) -> Q none { s with heap := h' }) : wpAny (model prog w) A (pyNext (.ref z)) Q E s := by
  have ty : s.TypeIs (.ref z) "zip" := ⟨_, Z.zz, rfl⟩
  obtain ⟨zz, ti, ⟨a, b, to⟩, a1, a2⟩ := Z
  unfold pyNext
  refine wpAny_bind (wpAny_attempt (wpAny_callSpecial?_slot (name := Str.ofString "__next__") ty F.slot_zip_next (wpAny_call_entry F.slot_zip_next ty F.entry_zip_next ?_ (F.args_zip_next_1 _))))
  show wpAny _ _ (field (Value.ref z) 2 >>= _) _ _ _
  refine wpAny_bind (wpAny_field zz rfl (x := Value.bool false) rfl (wpAny_bind (wpAny_field zz rfl (x := Value.ref TI) rfl (wpAny_bind (wpAny_seqItems ti rfl (wpAny_bind ?_))))))
  unfold Builtin.SmallTypes.ownedTupleIsFree
  refine wpAny_bind (wpAny_field zz rfl (x := Value.none) rfl (wpAny_pure ?_))
  simp only [if_true]
  refine wpAny_bind (wpAny_rule (wpAny_bind (wpAny_field zz rfl (x := Value.ref TO) rfl (wpAny_bind (wpAny_setField_rec zz (by simp) fun g1 z1 b1 => wpAny_bind ?_)))))
  replace z1 : IsZip g1 z TI TO .ellipsis := z1
  replace b1 : Heap.SameBut z s.heap g1 := b1
  simp only [List.zipIdx_cons, List.zipIdx_nil, List.forIn_cons, List.forIn_nil]
  have K1 : ∀ c o, c ≠ z -> c ≠ TO -> c ≠ i1 -> c ≠ i2 -> s.heap.get? c = some o -> g1.get? c = some o := fun c o h1 _ _ _ e => b1.extBut c o h1 e
  refine wpAny_bind (wpAny_bind (wpAny_onRaise (wpAny_bind (next_seq (s := { s with heap := g1 }) (a1.kept fun o e => b1.extBut _ o D.i1z e) (L1 g1 K1) hx fun g2 j1 b2 => wpAny_pure ?_))))
  replace b2 : Heap.SameBut i1 g1 g2 := b2
  have t2 : IsPair g2 TO a b := b2.extBut _ _ D.TOi1 (b1.extBut _ _ D.TOz to)
  refine wpAny_bind (wpAny_seqItems t2 rfl (wpAny_bind (wpAny_updateSeq_pair t2 fun g3 t3 b3 => ?_)))
  replace t3 : IsPair g3 TO x b := t3
  replace b3 : Heap.SameBut TO g2 g3 := b3
  refine wpAny_bind (wpAny_letGo (wpAny_pure ?_))
  have K3 : ∀ c o, c ≠ z -> c ≠ TO -> c ≠ i1 -> c ≠ i2 -> s.heap.get? c = some o -> g3.get? c = some o := fun c o h1 h2 h3 h4 e => b3.extBut c o h2 (b2.extBut c o h3 (K1 c o h1 h2 h3 h4 e))
  have a3 : ItAt k2 g3 i2 l2 n := a2.kept fun o e => b3.extBut _ o D.TOi2.symm (b2.extBut _ o D.i12.symm (b1.extBut _ o D.i2z e))
  have z3 : IsZip g3 z TI TO .ellipsis := b3.extBut _ _ D.TOz.symm (b2.extBut _ _ D.i1z.symm z1)
  refine wpAny_bind (wpAny_bind (wpAny_onRaise (wpAny_bind (end_seq (s := { s with heap := g3 }) hh a3 (L2 g3 K3) hy fun g4 e b4 he => ?_))))
  replace b4 : Heap.ExtBut i2 g3 g4 := b4
  obtain ⟨oe, hoe, hce⟩ := he
  have z4 : IsZip g4 z TI TO .ellipsis := b4 _ _ D.i2z.symm z3
  have ez : e ≠ z := fun x => by subst x; rw [z4] at hoe; cases hoe; simp at hce
  refine wpAny_setField_rec z4 (by simp) fun g5 _ b5 => ?_
  replace b5 : Heap.SameBut z g4 g5 := b5
  refine wpAny_bind (wpAny_isInstance (T := "StopIteration") (b := true) ⟨oe, b5.extBut _ _ ez hoe, hce⟩ isSubtype_stop (wpAny_pure (q g5 fun c o h1 h2 h3 h4 x => b5.extBut _ _ h1 (b4 _ _ h4 (K3 c o h1 h2 h3 h4 x)))))
end
def ItZs (k1 k2 : Kd) (K : PySem.W.Frag) (a b : Addr) : It :=
  ⟨(ItZ k1 k2 K a b).go, (ItZ k1 k2 K a b).yld, fun i H => ∃ xs ys x, SqK k1 K H a xs /\ SqK k2 K H b ys /\ xs[i]? = some x /\ ys.length <= i⟩
theorem turn_zip2 {P : Program} {w : World} {K : PySem.W.Frag} {elts : List Expr} {x1 : Nat} {tpos : Pos} (k1 k2 : Kd) (a b z TI TO i1 i2 : Addr) (D : ZipNe z TI TO i1 i2) :
    Turn P w K (.Tuple elts x1 tpos) (ItZs k1 k2 K a b) [z, TI, TO, i1, i2] z (fun i h => ZipAt h k1 k2 z TI TO i1 i2 a b .none i) where
  mem := (turn_zip (P := P) (w := w) (K := K) (elts := elts) (x1 := x1) (tpos := tpos) k1 k2 a b z TI TO i1 i2 D).mem
  obj := (turn_zip (P := P) (w := w) (K := K) (elts := elts) (x1 := x1) (tpos := tpos) k1 k2 a b z TI TO i1 i2 D).obj
  keep := (turn_zip (P := P) (w := w) (K := K) (elts := elts) (x1 := x1) (tpos := tpos) k1 k2 a b z TI TO i1 i2 D).keep
  item := (turn_zip (P := P) (w := w) (K := K) (elts := elts) (x1 := x1) (tpos := tpos) k1 k2 a b z TI TO i1 i2 D).item
  done := by
    intro X hP hw hK hc i pins s σ H E I hf st hg
    subst hP hw hK
    obtain ⟨xs, ys, x, hq1, hq2, hx, hy⟩ := hg
    obtain ⟨its1, r1, s1, _⟩ := I.seq hq1
    obtain ⟨its2, r2, s2, _⟩ := I.seq hq2
    obtain ⟨u1, e1, ru1⟩ := r1.get hx
    have nz := hf z (by simp)
    have nO := hf TO (by simp)
    have n1 := hf i1 (by simp)
    have n2 := hf i2 (by simp)
    exact zip_done2 (I.ok.hd hc) D st (fun h' kk => s1.kept fun o e => kk a o (I.seq_ne hq1 nz) (I.seq_ne hq1 nO) (I.seq_ne hq1 n1) (I.seq_ne hq1 n2) e)
      (fun h' kk => s2.kept fun o e => kk b o (I.seq_ne hq2 nz) (I.seq_ne hq2 nO) (I.seq_ne hq2 n1) (I.seq_ne hq2 n2) e) e1 (by rw [<- r2.length]; exact hy)
      fun h' kk => ⟨rfl, I.turnM (t' := s.toks) hf fun c o hc q => by simp at hc; exact kk c o hc.1 hc.2.2.1 hc.2.2.2.1 hc.2.2.2.2 q⟩
  self := (turn_zip (P := P) (w := w) (K := K) (elts := elts) (x1 := x1) (tpos := tpos) k1 k2 a b z TI TO i1 i2 D).self
def iZip2 (k1 k2 : Kd) (K : PySem.W.Frag) (ta : TA) : TI := fun σ H R => ta σ H fun vs H1 => ∃ a b xs ys, vs = [.ref a, .ref b] /\ SqK k1 K H1 a xs /\ SqK k2 K H1 b ys /\ R (ItZs k1 k2 K a b) H1
theorem pi_zip2 {X : Cx} {elts : List Expr} {x1 : Nat} {tpos : Pos} {l m : Expr} {ta : TA} {p pos : Pos} (k1 k2 : Kd) (hg : Gl X "zip") (hm : X.mg "zip" = none) (ha : PA X [l, m] ta)
    (hs : starEach [l, m] X.env = [(false, eval l X.env), (false, eval m X.env)] := by rfl) (hs2 : starEach [m] X.env = [(false, eval m X.env)] := by rfl) :
    PI X (.Tuple elts x1 tpos) (.Call (.Name "zip" p) [l, m] [] pos) (iZip2 k1 k2 X.K ta) := by
  intro pins s σ H R I h
  refine Call_ (ld_blt I hg hm boot_zip' (PyProof.Rows.callWith_type1 (thn (ha pos pins s σ H _ I h) fun us s1 ⟨vs, H1, I1, r1, q1⟩ => ?_) (by rw [hs, hs2]) (by rw [hs2]; rfl)))
  obtain ⟨a, b, xs, ys, rfl, hq1, hq2, q⟩ := q1
  obtain ⟨u, v, rfl, ru, rv⟩ := Vals.two r1
  cases (show u = Value.ref a from ru)
  cases (show v = Value.ref b from rv)
  obtain ⟨its1, _, t1, _⟩ := I1.seq hq1
  obtain ⟨its2, _, t2, _⟩ := I1.seq hq2
  refine call_zip t1 t2 fun h' c1 c2 => wpAny_pyIter_zip (s := { s1 with heap := h' }) c1.zz ?_
  refine ⟨_, [s1.heap.objs.size + 4, s1.heap.objs.size + 2, s1.heap.objs.size + 3, s1.heap.objs.size, s1.heap.objs.size + 1], _, _, H1, rfl, I1.kept (t' := s1.toks) c2,
    turn_zip2 k1 k2 a b _ _ _ _ _ (zipNe s1.heap.objs.size), c1, fun c hc => ?_, q⟩
  have le : s1.heap.objs.size <= c := by
    simp at hc
    rcases hc with rfl | rfl | rfl | rfl | rfl
    · exact Nat.le_add_right _ _
    · exact Nat.le_add_right _ _
    · exact Nat.le_add_right _ _
    · exact Nat.le_refl _
    · exact Nat.le_add_right _ _
  exact I1.fpOk le (I1.hok.fresh le)
theorem for_zip2 {k1 k2 : Kd} {K : PySem.W.Frag} {a b : Addr} {xs ys : List V} {g : TG} {tb : TS} {D : Ends} {σ : St} {H : Hp} (Pv : Nat -> St -> Hp -> Prop) (h0 : Pv 0 σ H) (hl : ∀ i σ H, i <= ys.length -> Pv i σ H -> SqK k1 K H a xs /\ SqK k2 K H b ys) (hle : ys.length < xs.length)
    (hs : ∀ (i : Nat) x y p σ H, xs[i]? = some x -> ys[i]? = some y -> Pv i σ H -> H p = none -> g (.ref p) σ (upd H p (.tup [x, y])) fun σ2 H2 => tb { D with nx := Pv (i + 1), ct := Pv (i + 1), bk := D.nx } σ2 H2) (hd : ∀ σ H, Pv ys.length σ H -> D.nx σ H) :
    ∃ W : Nat -> Nat -> St -> Hp -> Prop, (∃ m, W 0 m σ H) /\ ∀ i m σ H, W i m σ H ->
      ((ItZs k1 k2 K a b).stop i H /\ D.nx σ H) \/ ((ItZs k1 k2 K a b).go i H /\ ∃ N : St -> Hp -> Prop, (∀ σ' H', N σ' H' -> ∃ m', m' < m /\ W (i + 1) m' σ' H') /\ ∀ x H', (ItZs k1 k2 K a b).yld i H x H' -> g x σ H' fun σ2 H2 => tb { D with nx := N, ct := N, bk := D.nx } σ2 H2) := by
  refine ⟨fun i m σ H => m = ys.length - i /\ i <= ys.length /\ Pv i σ H, ⟨ys.length, by simp, Nat.zero_le _, h0⟩, ?_⟩
  rintro i m σ H ⟨rfl, hi, p⟩
  obtain ⟨q1, q2⟩ := hl i σ H hi p
  have hx : i < xs.length := by lia
  by_cases hlt : i < ys.length
  · refine .inr ⟨⟨xs, ys, xs[i], ys[i], q1, q2, by simp [hx], by simp [hlt]⟩, Pv (i + 1), fun σ' H' p' => ⟨ys.length - (i + 1), by lia, rfl, hlt, p'⟩, fun x H' y => ?_⟩
    obtain ⟨r, x, y, hn, rfl, hx, hy, rfl⟩ := y
    exact hs i x y r σ H (hx xs q1) (hy ys q2) p hn
  · have e : i = ys.length := by lia
    subst e
    exact .inl ⟨⟨xs, ys, xs[ys.length], q1, q2, by simp [hx], Nat.le_refl _⟩, hd σ H p⟩
end L2
namespace L2
open PySem PySem.W PyProof.Rows
section
variable {X : Cx}
end
end L2
namespace L2
open PySem PySem.W PyProof.Rows
section
variable {X : Cx} {pos : Pos}
end
end L2
namespace L2
open PySem PySem.SetTable
def nx (m i : Nat) : Nat := (i * 5 + 1) % (m + 1)
end L2
namespace L2
open PySem PySem.SetTable
def lv (m : Nat) (o : Array (Option Nat)) : List (Nat × Nat) := (List.range (m + 1)).filterMap fun j => (o.getD j none).map (j, ·)
end L2
namespace L2
open PySem PySem.SetTable
section
variable {prog : Program} {w : World} {A : Around} {E : Value -> Shared -> Prop} {s : Shared}
end
end L2
namespace L2
open PySem PySem.SetTable
section
variable {prog : Program} {w : World} {A : Around} {E : Value -> Shared -> Prop} {s : Shared} {a b : Addr} {o : Obj} {es : Array (Int × Value)} {ep : Nat} {t : SetTable} {kx : List Int}
end
end L2
namespace L2
open PySem PySem.SetTable PyProof.Rows
section
variable {prog : Program} {w : World} {G : Value -> List Int -> Prop} {A : Around} {E : Value -> Shared -> Prop} {s : Shared} {a b : Addr} {led : Bool} {kss : List (List Int)} {kx : List Int}
end
end L2
namespace L2
open PySem PySem.Spec PyProof.Rows
section
variable {prog : Program} {w : World} {A : Around} {R : Result -> Shared -> Prop} {I : Addr} {fp wr : List Addr} {G : Array GenState -> Array GenState -> Prop} {n : Nat} {P : Nat -> Value -> Prop} {St : Nat -> Shared -> Prop}
end
section
variable {prog : Program} {w : World} {A : Around} {E : Value -> Shared -> Prop} {s : Shared}
set_option maxHeartbeats 8000000 in
end
end L2
namespace L2
open PySem PySem.W PyProof.Rows
section
variable {prog : Program} {w : World} {A : Around} {E : Value -> Shared -> Prop} {s : Shared} {a : Addr} {kss : List (List Int)} {G : Value -> List Int -> Prop}
end
section
variable {X : Cx}
end
end L2
namespace L2
open PySem PySem.W PyProof.Rows
section
variable {X : Cx}
end
end L2
namespace L2
open PySem PySem.W PyProof.Rows
section
variable {X : Cx}
end
end L2
namespace L2
open PySem PySem.Spec PyProof.Rows PySem.W
def fld2 (o : Obj) : Option Value := match o.data with
  | .fields vs => vs[2]?
  | _ => none
def DKeeps {α : Type} : Sem α -> Prop
  | .pure _ => True
  | .unsupported _ => True
  | .finish _ => True
  | .rule _ k => DKeeps (k ())
  | .at _ k => DKeeps (k ())
  | .load _ _ k => ∀ o, DKeeps (k o)
  | .update _ _ f k => (∀ o, (f o).dict = o.dict /\ fld2 (f o) = fld2 o) /\ DKeeps (k ())
  | .loadIfAlive _ k => ∀ o, DKeeps (k o)
  | .point _ k => DKeeps (k ())
  | .alloc _ k => ∀ a, DKeeps (k a)
  | .fresh k => ∀ a, DKeeps (k a)
  | .ask k => ∀ a, DKeeps (k a)
  | .handled _ k => ∀ a, DKeeps (k a)
  | .stack k => ∀ a, DKeeps (k a)
  | .thread k => ∀ a, DKeeps (k a)
  | _ => False
def DSame (h h' : Heap) : Prop := ∀ (b : Nat) (o : Obj), h.objs[b]? = some o -> ∃ o', h'.objs[b]? = some o' /\ o'.dict = o.dict /\ fld2 o' = fld2 o
theorem DSame.refl (h : Heap) : DSame h h := fun _ o e => ⟨o, e, rfl, rfl⟩
theorem DSame.trans {h1 h2 h3 : Heap} (x : DSame h1 h2) (y : DSame h2 h3) : DSame h1 h3 := fun b o e => by
  obtain ⟨o1, e1, d1⟩ := x b o e
  obtain ⟨o2, e2, d2⟩ := y b o1 e1
  exact ⟨o2, e2, d2.1.trans d1.1, d2.2.trans d1.2⟩
theorem DSame.push {h : Heap} {o : Obj} : DSame h (h.push o) := fun b u e => by
  obtain ⟨objs, l⟩ := h
  refine ⟨u, ?_, rfl, rfl⟩
  show (objs.push o)[b]? = some u
  have : b < objs.size := (Array.getElem?_eq_some_iff.mp e).1
  rw [Array.getElem?_push, if_neg (Nat.ne_of_lt this)]
  exact e
theorem DSame.update {h : Heap} {a : Addr} {f : Obj -> Obj} (hf : ∀ o, (f o).dict = o.dict /\ fld2 (f o) = fld2 o) : DSame h (h.update a f) := fun b u e => by
  obtain ⟨objs, l⟩ := h
  show ∃ o', (objs.modify a f)[b]? = some o' /\ _
  have e' : objs[b]? = some u := e
  rw [Array.getElem?_modify]
  by_cases hb : a = b
  · rw [if_pos hb, e']
    exact ⟨f u, rfl, (hf u).1, (hf u).2⟩
  · rw [if_neg hb, e']
    exact ⟨u, rfl, rfl, rfl⟩
theorem get_objs {h : Heap} {a : Addr} {o : Obj} (e : h.get? a = some o) : h.objs[a]? = some o := by
  unfold Heap.get? at e
  split at e
  · cases e
  · exact e
theorem DSame.at {h h' : Heap} (x : DSame h h') {a : Addr} {o o' : Obj} (e : h.get? a = some o) (e' : h'.get? a = some o') : o'.dict = o.dict /\ fld2 o' = fld2 o := by
  obtain ⟨u, e1, d⟩ := x a o (get_objs e)
  rw [get_objs e'] at e1
  cases e1
  exact d
theorem dkeeps_wp {α : Type} {M : Model} {Γ : PySem.Ctx} {E E' : Value -> Pos -> Shared -> Prop} : ∀ (t : Sem α) (Q : α -> Pos -> Shared -> Prop) (p : Pos) (s : Shared), DKeeps t -> Sem.wp M Γ t Q E p s -> Sem.wp M Γ t (fun a p' s' => Q a p' s' /\ DSame s.heap s'.heap) E' p s := by
  intro t
  have up : ∀ {h1 h2 h3 : Heap}, DSame h1 h2 -> DSame h2 h3 -> DSame h1 h3 := fun a b => a.trans b
  induction t with
  | pure a => intro Q p s _ h; rw [Sem.wp] at h ⊢; exact ⟨h, .refl _⟩
  | raise e => intro Q p s d h; exact d.elim
  | unsupported _ => intro Q p s _ h; rw [Sem.wp] at h; exact h.elim
  | finish _ => intro Q p s _ h; rw [Sem.wp] at h; exact h.elim
  | rule t k ih => intro Q p s d h; rw [Sem.wp] at h ⊢; exact ih () Q p s d h
  | «at» p' k ih => intro Q p s d h; rw [Sem.wp] at h ⊢; exact ih () Q p' s d h
  | load a x k ih => intro Q p s d h; rw [Sem.wp] at h ⊢; obtain ⟨o, e, h⟩ := h; exact ⟨o, e, ih o Q p s (d o) h⟩
  | update a x f k ih =>
    intro Q p s d h
    rw [Sem.wp] at h ⊢
    have := ih () Q p _ d.2 h.2
    refine ⟨h.1, ?_⟩
    have z := ih () (fun a p' s' => Q a p' s') p _ d.2 h.2
    exact Sem.wp_mono M Γ _ (fun a p1 s1 q => ⟨q.1, (DSame.update d.1).trans q.2⟩) (fun _ _ _ q => q) _ _ z
  | alloc o k ih =>
    intro Q p s d h
    rw [Sem.wp] at h ⊢
    exact Sem.wp_mono M Γ _ (fun a p1 s1 q => ⟨q.1, DSame.push.trans q.2⟩) (fun _ _ _ q => q) _ _ (ih _ Q p _ (d _) h)
  | loadIfAlive a k ih => intro Q p s d h; rw [Sem.wp] at h ⊢; exact ih _ Q p s (d _) h
  | point l k ih => intro Q p s d h; rw [Sem.wp] at h ⊢; exact ih () Q p s d h
  | register a k ih => intro Q p s d h; exact d.elim
  | fresh k ih => intro Q p s d h; rw [Sem.wp] at h ⊢; exact ih _ Q p _ (d _) h
  | ask k ih => intro Q p s d h; rw [Sem.wp] at h ⊢; exact ih _ Q p s (d _) h
  | choose a n k ih => intro Q p s d h; exact d.elim
  | os a l k ih => intro Q p s d h; exact d.elim
  | call c h g l k ih => intro Q p s d h; exact d.elim
  | handled o k ih => intro Q p s d h; rw [Sem.wp] at h ⊢; exact ih _ Q p s (d _) h
  | newGen c k ih => intro Q p s d h; exact d.elim
  | genState g k ih => intro Q p s d h; exact d.elim
  | resume g r l k ih => intro Q p s d h; exact d.elim
  | yield v g l k ih => intro Q p s d h; exact d.elim
  | stack k ih => intro Q p s d h; rw [Sem.wp] at h ⊢; exact ih _ Q p s (d _) h
  | fork c k ih => intro Q p s d h; exact d.elim
  | thread k ih => intro Q p s d h; rw [Sem.wp] at h ⊢; exact ih _ Q p s (d _) h
  | await a f d l k ih => intro Q p s d h; exact d.elim
theorem dkeeps_bind {α β : Type} : ∀ (t : Sem α) (f : α -> Sem β), DKeeps t -> (∀ a, DKeeps (f a)) -> DKeeps (t.bind f) := by
  intro t f
  induction t with
  | pure a => intro _ h; exact h a
  | raise e => intro d _; exact d.elim
  | unsupported _ => intro _ _; trivial
  | finish _ => intro _ _; trivial
  | rule t k ih => intro d h; exact ih () d h
  | «at» p' k ih => intro d h; exact ih () d h
  | load a x k ih => intro d h; exact fun o => ih o (d o) h
  | update a x f k ih => intro d h; exact ⟨d.1, ih () d.2 h⟩
  | alloc o k ih => intro d h; exact fun o => ih o (d o) h
  | loadIfAlive a k ih => intro d h; exact fun o => ih o (d o) h
  | point l k ih => intro d h; exact ih () d h
  | fresh k ih => intro d h; exact fun o => ih o (d o) h
  | ask k ih => intro d h; exact fun o => ih o (d o) h
  | handled o k ih => intro d h; exact fun o => ih o (d o) h
  | stack k ih => intro d h; exact fun o => ih o (d o) h
  | thread k ih => intro d h; exact fun o => ih o (d o) h
  | _ => intro d h; exact d.elim
theorem dk_bind {α β : Type} {t : Sem α} {f : α -> Sem β} (h1 : DKeeps t) (h2 : ∀ a, DKeeps (f a)) : DKeeps (t >>= f) := dkeeps_bind t f h1 h2
theorem dk_pure {α : Type} {a : α} : DKeeps (pure a : Sem α) := trivial
theorem wpAny_samed {α : Type} {M : Model} {A : Around} {t : Sem α} {Q : α -> Shared -> Prop} {E E' : Value -> Shared -> Prop} {s : Shared} (d : DKeeps t) (h : wpAny M A t Q E s) : wpAny M A t (fun a s' => Q a s' /\ DSame s.heap s'.heap) E' s :=
  fun Γ p g => dkeeps_wp t _ p s d (h Γ p g)
theorem dk_uns {α : Type} {w : String} : DKeeps (unsupported w : Sem α) := trivial
theorem dk_load {a : Addr} : DKeeps (load a) := fun _ => trivial
theorem dk_alloc {o : Obj} : DKeeps (alloc o) := fun _ => trivial
theorem dk_stack : DKeeps stack := fun _ => trivial
theorem set_keeps {i : Nat} {v : Value} (hi : i ≠ 2) (o : Obj) : (Obj.mapFields (fun vs => vs.setIfInBounds i v) o).dict = o.dict /\ fld2 (Obj.mapFields (fun vs => vs.setIfInBounds i v) o) = fld2 o := by
  unfold Obj.mapFields
  split
  · refine ⟨rfl, ?_⟩
    show (Array.setIfInBounds _ i v)[2]? = _
    rw [Array.getElem?_setIfInBounds_ne hi]
    rfl
  · exact ⟨rfl, rfl⟩
theorem dk_update {a : Addr} {f : Obj -> Obj} (h : ∀ o, (f o).dict = o.dict /\ fld2 (f o) = fld2 o) : DKeeps (update a f) := ⟨h, trivial⟩
theorem dk_fieldsOf {v : Value} : DKeeps (fieldsOf v) := by
  unfold fieldsOf
  repeat (any_goals first | exact dk_pure | exact dk_uns | exact dk_load | exact dk_loadPart | exact dk_alive | exact dk_alloc | exact dk_stack | exact dk_rule | exact dk_point | exact dk_standAt | exact dk_update (fun _ => ⟨rfl, rfl⟩) | refine dk_bind ?_ (fun _ => ?_) | split)
theorem dk_field {v : Value} {i : Nat} : DKeeps (field v i) := by
  unfold field
  refine dk_bind dk_fieldsOf fun _ => ?_
  repeat (any_goals first | exact dk_pure | exact dk_uns | exact dk_load | exact dk_loadPart | exact dk_alive | exact dk_alloc | exact dk_stack | exact dk_rule | exact dk_point | exact dk_standAt | exact dk_update (fun _ => ⟨rfl, rfl⟩) | refine dk_bind ?_ (fun _ => ?_) | split)
theorem dk_setField {v x : Value} {i : Nat} (hi : i ≠ 2) : DKeeps (setField v i x) := by
  unfold setField updateField
  repeat (any_goals first | exact dk_update (set_keeps hi) | exact dk_pure | exact dk_uns | exact dk_load | exact dk_loadPart | exact dk_alive | exact dk_alloc | exact dk_stack | exact dk_rule | exact dk_point | exact dk_standAt | exact dk_update (fun _ => ⟨rfl, rfl⟩) | refine dk_bind ?_ (fun _ => ?_) | split)
theorem dk_setFlight {v : Value} {f : Option Addr} : DKeeps (setFlight v f) := by
  unfold setFlight
  refine dk_bind dk_field fun tb => ?_
  split
  · exact dk_setField (by decide)
  · exact dk_pure
theorem dk_newFields {t : String} {vs : List Value} : DKeeps (newFields t vs) := by
  unfold newFields newObj
  repeat (any_goals first | exact dk_pure | exact dk_uns | exact dk_load | exact dk_loadPart | exact dk_alive | exact dk_alloc | exact dk_stack | exact dk_rule | exact dk_point | exact dk_standAt | exact dk_update (fun _ => ⟨rfl, rfl⟩) | refine dk_bind ?_ (fun _ => ?_) | split)
theorem dk_behind {env : Env} {l : List Env} : DKeeps (behindIsImport env l) := by
  unfold behindIsImport
  repeat (any_goals first | exact dk_pure | exact dk_field | refine dk_bind ?_ (fun _ => ?_) | split)
theorem dk_under : DKeeps underTheClaimsCaller := by
  unfold underTheClaimsCaller
  repeat (any_goals first | exact dk_pure | exact dk_uns | exact dk_load | exact dk_loadPart | exact dk_alive | exact dk_alloc | exact dk_stack | exact dk_rule | exact dk_point | exact dk_standAt | exact dk_update (fun _ => ⟨rfl, rfl⟩) | refine dk_bind ?_ (fun _ => ?_) | split)
theorem dk_keptBack {env : Env} {b : Bool} {l : List Env} : DKeeps (keptBack env b l) := by
  cases l with
  | nil =>
    unfold keptBack
    repeat (any_goals first | exact dk_pure | exact dk_under | refine dk_bind ?_ (fun _ => ?_) | split)
  | cons c r => exact dk_pure
theorem dk_ready : ∀ l : List Env, DKeeps (readyFrames l)
  | [] => dk_pure
  | env :: outer => by
    unfold readyFrames
    repeat (any_goals first | exact dk_pure | exact dk_uns | exact dk_load | exact dk_behind | exact dk_keptBack | exact dk_ready outer | exact dk_update (fun _ => ⟨rfl, rfl⟩) | refine dk_bind ?_ (fun _ => ?_) | split)
theorem dk_frameObject : ∀ l : List Env, DKeeps (frameObject l)
  | [] => dk_pure
  | env :: outer => dk_bind (dk_ready _) fun _ => dk_pure
theorem dk_frameOf {env : Env} : DKeeps (PySem.frameOf env) := by
  unfold PySem.frameOf frameEnvs
  repeat (any_goals first | exact dk_pure | exact dk_uns | exact dk_stack | exact dk_frameObject _ | refine dk_bind ?_ (fun _ => ?_) | split)
theorem dk_place {f : Addr} {b : Bool} : DKeeps (entryPlaceOf f b) := by
  unfold entryPlaceOf
  repeat (any_goals first | exact dk_pure | exact dk_uns | exact dk_load | exact dk_loadPart | exact dk_alive | exact dk_alloc | exact dk_stack | exact dk_rule | exact dk_point | exact dk_standAt | exact dk_update (fun _ => ⟨rfl, rfl⟩) | refine dk_bind ?_ (fun _ => ?_) | split)
theorem dk_noteFrame {e : Value} {env : Env} : DKeeps (noteFrame e env) := by
  unfold noteFrame EntryCells.newEntry
  repeat (any_goals first | exact dk_pure | exact dk_uns | exact dk_field | exact dk_setField (by decide) | exact dk_newFields | exact dk_frameOf | exact dk_place | refine dk_bind ?_ (fun _ => ?_) | split)
theorem dk_leaving {e : Value} {env : Env} : DKeeps (leaving env e) := dk_bind dk_noteFrame fun _ => dk_setFlight
end L2
namespace L2
open PySem PySem.Spec PyProof.Rows PySem.W
def DictIs (h : Heap) (ea : Addr) (od : Option Addr) : Prop := ∃ o, h.get? ea = some o /\ (∀ dx, od = some dx -> o.dict = some dx) /\ fld2 o = some .none
def CXq (P : Program) (w : World) : CXT := fun outer H s E e s' => ∃ (ea C : Addr) (a0 : Value) (B : Heap) (H' : Hp) (od : Option Addr), e = .ref ea /\ s'.os = s.os /\ AllBare s'.gens /\ Un (frs outer) [] H H' s.heap s'.heap /\ HOk P w H' s'.heap /\
  Heap.FlyingW B outer ea (.ref C) a0 s'.heap /\ (∀ b o, s'.heap.get? b = some o -> ((∃ q, s.heap.get? b = some q) \/ ∃ q, H' b = some q) -> b ∉ frs outer -> B.get? b = some o) /\ DictIs s'.heap ea od /\ E (.ref C) od H'
theorem CXr.q {P : Program} {w : World} {outer : List Env} {H : Hp} {s : Shared} {E : XK} {e : Value} {s' : Shared} (h : CXr P w outer H s E e s') (hf : ∀ ea, e = .ref ea -> ∀ o, s'.heap.get? ea = some o -> fld2 o = some .none) : CXq P w outer H s E e s' := by
  obtain ⟨ea, C, a0, B, H', e1, e2, e3, e4, e5, e6, e7, e8⟩ := h
  obtain ⟨o, h1, _⟩ := e6.there
  exact ⟨ea, C, a0, B, H', none, e1, e2, e3, e4, e5, e6, e7, ⟨o, h1, (fun _ z => by cases z), hf ea e1 o h1⟩, e8⟩
section
variable {P : Program} {w : World} {K : PySem.W.Frag} {mg : Str -> Option Value} {base : Heap} {N : List Str} {qual : Str} {scope : Scope} {f : Addr} {cd : Value} {A : Around} {outer : List Env} {s0 : Shared} {H0 : Hp} {E : XK}
theorem inv_cx {CX CX' : CXT} {E' : XK} {pins : List (Addr × Obj)} {σ : St} {H : Hp} {s : Shared} (I : Inv (cxOf CX P w K mg base N qual scope f cd A outer s0 H0 E) pins σ H s) : Inv (cxOf CX' P w K mg base N qual scope f cd A outer s0 H0 E') pins σ H s :=
  ⟨⟨I.ok.mod, I.ok.kind, I.ok.glob, I.ok.blt, I.ok.above, I.ok.inj, I.ok.has, I.ok.cab, I.ok.hd, I.ok.frames, I.ok.stk, I.ok.exf, I.ok.bs, I.ok.bsz, I.ok.noex, I.ok.exfs, I.ok.funs, I.ok.frf⟩, I.os, I.bare, I.base, I.loc, I.cell, I.free, I.freeC, I.pin, I.hok, I.len⟩
theorem leave_raiseQ {pins : List (Addr × Obj)} {σ : St} {H : Hp} {s2 : Shared} {h' : Heap} {e C : Addr} {vs : List Value} {E2 : Value -> Shared -> Prop} (I : Inv (cxOf (CXq P w) P w K mg base N qual scope f cd A outer s0 H0 E) pins σ H s2)
    (hx : Heap.MadeExcOf s2.heap h' e (.ref C) vs) (q : E (.ref C) none H) :
    wpAny (model P w) (A.deeper (envOfC qual scope s0.heap.objs.size f cd)) (leaving (envOfC qual scope s0.heap.objs.size f cd) (.ref e)) (fun _ s'' => CXq P w outer H0 s0 E (.ref e) s'') E2 { s2 with heap := h' } :=
  wpAny_mono (wpAny_samed (E' := E2) dk_leaving (leave_raise (E2 := fun _ _ => False) (inv_cx I) hx q)) (fun _ _ z => z.1.q fun ea ez o h1 => by
    cases ez
    obtain ⟨t, h2, _⟩ := hx.there
    exact (z.2.at h2 h1).2.trans rfl) fun _ _ z => z
theorem ps_raiseQ {x : Str} {C : Addr} {bm : List Value} {np cpos pos : Pos} {e : Expr} {ta : TA} (hg : Gl (cxOf (CXq P w) P w K mg base N qual scope f cd A outer s0 H0 E) x) (hm : mg x = some (.ref C)) (hc : excB K C bm = true)
    (ha : PA (cxOf (CXq P w) P w K mg base N qual scope f cd A outer s0 H0 E) [e] ta) (hd : (x == ("__debug__" : Str)) = false := by decide)
    (hs : starEach [e] (envOfC qual scope s0.heap.objs.size f cd) = [(false, eval e (envOfC qual scope s0.heap.objs.size f cd))] := by rfl) :
    PS (cxOf (CXq P w) P w K mg base N qual scope f cd A outer s0 H0 E) (.Raise (some (.Call (.Name x np) [e] [] cpos)) none pos) (tRaise C E ta) := by
  intro pins s σ H D I h
  have XA := excAt_of I.mod.kin hc
  obtain ⟨Na, nm, qn, bs, hd', sn, sub, ab, col, dd, k0, k1, k2, k3, k5, mN, e1, e2, e3, e4⟩ := XA.ex
  refine wpAny_Raise_call_subU (mN := mN) (nm := nm) (q := qn) (N := Na) (bs := bs) (bm := bm) (hdct := hd') (sn := sn) (sub := sub) (ab := ab) (col := col) (dd := dd) (k0 := k0) (k1 := k1) (k2 := k2) (k3 := k3) (k5 := k5) F.excBase_ValueError bmVE_value F.excBase_ValueError (e4.hasType bmVE_base) (I.ok.hd rfl) (by show (backTo cpos (starEach [e] (envOfC qual scope s0.heap.objs.size f cd))).any (·.1) = false; rw [hs]; rfl) e3 (ld_glob I hg hm ⟨rfl, ?_⟩ hd)
  have hA := ha cpos pins s σ H _ I h
  show wpAny _ _ (evalArgs (.ref C) true (backTo cpos (starEach [e] (envOfC qual scope s0.heap.objs.size f cd))) []) _ _ _
  have hA' : wpAny (model P w) (A.deeper (envOfC qual scope s0.heap.objs.size f cd)) (spliced (backTo cpos (starEach [e] (envOfC qual scope s0.heap.objs.size f cd)))) _ _ s := hA
  rw [hs] at hA' ⊢
  refine Calls.evalArgs_plain (thn hA' fun us s2 ⟨vs, H2, I2, r2, q2⟩ => ?_)
  refine ⟨rfl, ?_, I2.bk _ _ e1, e2.keeps I2.bk, e4.keeps I2.bk, fun h' ea hx => ?_⟩
  · show us.length <= sizeLine
    rw [<- r2.length]
    exact Nat.le_trans q2.1 (by decide)
  · exact leave_raiseQ I2 hx q2.2
theorem pass_onQ : Passes (CXq P w) (cxOf (CXq P w) P w K mg base N qual scope f cd A outer s0 H0 E) E := by
  intro pins σ H s e s' I hx
  obtain ⟨ea, C, a0, B, H', od, rfl, os, bare, un, hok, fly, kB, di, q⟩ := hx
  have z : wpAny (model P w) (A.deeper (envOfC qual scope s0.heap.objs.size f cd)) (leaving (envOfC qual scope s0.heap.objs.size f cd) (.ref ea)) (fun _ s'' => CXr P w outer H0 s0 (fun c _ H => c = .ref C /\ E c od H) (.ref ea) s'') _ s' :=
    pass_on (E := fun c _ H => c = .ref C /\ E c od H) pins σ H s (.ref ea) s' (inv_cx I) ⟨ea, C, a0, B, H', rfl, os, bare, un, hok, fly, kB, rfl, q⟩
  refine wpAny_mono (wpAny_samed (E' := fun _ _ => False) dk_leaving z) (fun _ s'' ⟨c, ds⟩ => ?_) fun e' s'' c => c.elim
  · obtain ⟨ea', C', a0', B', H'', e1, os', bare', un', hok', fly', kB', e2, q'⟩ := c
    cases e1
    cases e2
    refine ⟨ea, C, a0', B', H'', od, rfl, os', bare', un', hok', fly', kB', ?_, q'⟩
    obtain ⟨o, h1, h2, h4⟩ := di
    obtain ⟨o', h3, _⟩ := fly'.there
    exact ⟨o', h3, fun dx e => (ds.at h1 h3).1.trans (h2 dx e), (ds.at h1 h3).2.trans h4⟩
end
structure DefQ (P : Program) (w : World) (K : PySem.W.Frag) (mg : Str -> Option Value) (base : Heap) (k : Nat) (x : Str) (ps : List Str) (sp : Sp) : Prop where
  ex : ∃ f fd, FnOk P w K mg base (CXq P w) k f fd ps sp /\ Binds K fd ps [] /\ mg x = some (.ref f) /\ PySem.W.keepIn K (.ref f) = true
theorem passQ {P : Program} {w : World} {X : Cx} : Passes (CXq P w) X E0 := fun _ _ _ _ _ _ _ ⟨_, _, _, _, _, _, _, _, _, _, _, _, _, _, z⟩ => z.elim
theorem pe_defQ {X : Cx} {k : Nat} {x : Str} {ps : List Str} {sp : Sp} {e : Expr} {es : List Expr} {t : TA} {p pos : Pos} (D : DefQ X.prog X.w X.K X.mg X.base k x ps sp) (hr : Room k X.A) (hg : Gl X x) (ha : PA X (e :: es) t)
    (hdb : (x == ("__debug__" : Str)) = false := by decide) (he : starEach (e :: es) X.env = (false, eval e X.env) :: starEach es X.env := by rfl) (hpl : (backTo pos (starEach es X.env)).any (·.1) = false := by rfl) :
    PE X (.Call (.Name x p) (e :: es) [] pos) (tCall sp [] E0 t) := by
  obtain ⟨f, fd, F, b, m, kp⟩ := D.ex
  exact pe_call F hr hg m kp b .nil passQ ha hdb he hpl
theorem Src.defQ {P : Program} {w : World} {K : PySem.W.Frag} {mg : Str -> Option Value} {base : Heap} {k : Nat} {x : Str} {st : Stmt} {N ps : List Str} {sp : Sp} (S : Src K mg x st ps) (sc : FnScope N ps (defScope st)) (len : ∀ vs H Q E, sp vs H Q E -> vs.length = ps.length)
    (hbody : ∀ (f : Addr) (cdv : Value) (A : Around) (outer : List Env) (s : Shared) (H : Hp) (vs : List V) (Q : VK) (E : XK), Room k (A.deeper (envOfC x (defScope st) s.heap.objs.size f cdv)) -> sp vs H Q E ->
      ∃ t, PSs (cxOf (CXq P w) P w K mg base N x (defScope st) f cdv A outer s H E) (defBody st) t /\ t { nx := fun _ H' => Q .non H', rt := Q } (start N vs) H) : DefQ P w K mg base (k + 1) x ps sp := by
  obtain ⟨f, fd, F, b, m⟩ := S.ex
  obtain ⟨oc, od, kV, doc, pm, an, cdv, ct, osl, e, lk, hcd⟩ := F.ex
  subst e
  exact ⟨f, _, fn_of lk hcd sc len (hbody f cdv), b, m, F.kp⟩
theorem pe_defPQ {P : Program} {w : World} {K : PySem.W.Frag} {mg : Str -> Option Value} {base : Heap} {N : List Str} {qual : Str} {scope : Scope} {f : Addr} {cd : Value} {A : Around} {outer : List Env} {s0 : Shared} {H0 : Hp} {E : XK} {k : Nat} {x : Str} {ps : List Str} {sp : Sp} {e : Expr} {es : List Expr} {t : TA} {p pos : Pos}
    (D : DefQ P w K mg base k x ps sp) (hr : Room k (A.deeper (envOfC qual scope s0.heap.objs.size f cd))) (hg : Gl (cxOf (CXq P w) P w K mg base N qual scope f cd A outer s0 H0 E) x) (ha : PA (cxOf (CXq P w) P w K mg base N qual scope f cd A outer s0 H0 E) (e :: es) t)
    (hdb : (x == ("__debug__" : Str)) = false := by decide) (he : starEach (e :: es) (envOfC qual scope s0.heap.objs.size f cd) = (false, eval e (envOfC qual scope s0.heap.objs.size f cd)) :: starEach es (envOfC qual scope s0.heap.objs.size f cd) := by rfl)
    (hpl : (backTo pos (starEach es (envOfC qual scope s0.heap.objs.size f cd))).any (·.1) = false := by rfl) :
    PE (cxOf (CXq P w) P w K mg base N qual scope f cd A outer s0 H0 E) (.Call (.Name x p) (e :: es) [] pos) (tCall sp [] E t) := by
  obtain ⟨g, fd, F, b, m, kp⟩ := D.ex
  exact pe_call F hr hg m kp b .nil pass_onQ ha hdb he hpl
def ExcObjP (a C : Addr) (od : Option Addr) (h : Heap) : Prop := ∃ (o : Obj) (vs : Array Value), h.get? a = some o /\ o.cls = .ref C /\ o.data = .fields vs /\ (∀ dx, od = some dx -> o.dict = some dx) /\ vs[2]? = some .none
def excP (a C : Addr) (od : Option Addr) : HO := .ext (ExcObjP a C od)
theorem excP_ok {P : Program} {w : World} {H : Hp} {h : Heap} {a C : Addr} {od : Option Addr} (x : ExcObjP a C od h) : ObjOk P w H h a (excP a C od) := by
  obtain ⟨o, vs, h1, h2, h3, h4⟩ := id x
  exact ⟨x, ⟨o, h1⟩, fun a1 a2 ⟨o', v', e1, e2, e3, e4⟩ k => ⟨o', v', k o' e1, e2, e3, e4⟩⟩
section
variable {X : Cx}
def rIsP (K : PySem.W.Frag) : List V -> Hp -> VK -> Prop := fun xs H Q => ∃ (a C : Addr) (od : Option Addr) (c : V) (u : Value) (b : Bool), xs = [.ref a, c] /\ RelV c u /\ H a = some (excP a C od) /\ ExcK K C /\ kitOne K (.ref C) u = some b /\ Q (.bl b) H
theorem call_isP : CallR X (.builtin "isinstance") (rIsP X.K) := by
  intro pins s σ H xs us Q I r h
  obtain ⟨a, C, od, c, u, b, rfl, rc, ha, Z, e, q⟩ := h
  obtain ⟨v1, v2, rfl, r1, r2⟩ := Vals.two r
  cases r1
  obtain ⟨⟨o, _, hx1, hx2, _⟩, _⟩ := I.hok a _ ha
  have e2 : v2 = u := by
    cases c <;> first
      | exact (show v2 = _ from r2).trans (show u = _ from rc).symm
      | skip
    all_goals (exfalso; obtain ⟨_, rfl⟩ := rc; unfold kitOne kitCls at e; split at e <;> simp_all)
  subst e2
  exact kia_one (kitx_exc Z) I.kIn ⟨o, hx1, hx2⟩ e (by intro z; cases z) fun tk => ⟨.bl b, H, I.tok _, rfl, q⟩
end
section
variable {M : Model} {A : Around} {E : Value -> Shared -> Prop} {s : Shared}
theorem looks_onD {base : Heap} {env : Env} {outer : List Env} {L e : Addr} {cls a0 : Value} {Q : Unit -> Shared -> Prop} (hfr : A.frames = some (env :: outer)) (hf : env.frame = some L) (hfl : Heap.FlyingW base (env :: outer) e cls a0 s.heap)
    (hQ : ∀ h', Heap.HeldW base (env :: outer) e cls a0 L h' -> s.heap.UpToSlots h' -> DSame s.heap h' -> Q () { s with heap := h' }) : wpAny M A (noteFrame (.ref e) env) Q E s :=
  wpAny_mono (wpAny_samed (E := fun _ _ => False) (E' := E) dk_noteFrame (wpAny_looks_onW (Q := fun _ s' => ∃ h', s' = { s with heap := h' } /\ Heap.HeldW base (env :: outer) e cls a0 L h' /\ s.heap.UpToSlots h') hfr hf hfl fun h' a b => ⟨h', rfl, a, b⟩))
    (fun _ s' ⟨⟨h', e, a, b⟩, d⟩ => by subst e; exact hQ h' a b d) fun _ _ x => x
theorem landsD {base : Heap} {l : List Env} {e L : Addr} {cls a0 : Value} {Q : Unit -> Shared -> Prop} (hh : Heap.HeldW base l e cls a0 L s.heap)
    (hQ : ∀ h', Heap.FlyingW base l e cls a0 h' -> s.heap.UpToSlots h' -> DSame s.heap h' -> Q () { s with heap := h' }) : wpAny M A (setFlight (.ref e) none) Q E s :=
  wpAny_mono (wpAny_samed (E := fun _ _ => False) (E' := E) dk_setFlight (wpAny_landsW (Q := fun _ s' => ∃ h', s' = { s with heap := h' } /\ Heap.FlyingW base l e cls a0 h' /\ s.heap.UpToSlots h') hh fun h' a b => ⟨h', rfl, a, b⟩))
    (fun _ s' ⟨⟨h', e, a, b⟩, d⟩ => by subst e; exact hQ h' a b d) fun _ _ x => x
theorem lands_againD {base : Heap} {l : List Env} {e : Addr} {cls a0 : Value} {Q : Unit -> Shared -> Prop} (hh : Heap.FlyingW base l e cls a0 s.heap)
    (hQ : ∀ h', Heap.FlyingW base l e cls a0 h' -> s.heap.UpToSlots h' -> DSame s.heap h' -> Q () { s with heap := h' }) : wpAny M A (setFlight (.ref e) none) Q E s :=
  wpAny_mono (wpAny_samed (E := fun _ _ => False) (E' := E) dk_setFlight (lands_againW (Q := fun _ s' => ∃ h', s' = { s with heap := h' } /\ Heap.FlyingW base l e cls a0 h' /\ s.heap.UpToSlots h') hh fun h' a b => ⟨h', rfl, a, b⟩))
    (fun _ s' ⟨⟨h', e, a, b⟩, d⟩ => by subst e; exact hQ h' a b d) fun _ _ x => x
end
def XPQ (X : Cx) (pins : List (Addr × Obj)) (DX : St -> XK) (e : Value) (s' : Shared) : Prop := ∃ σ H s, Inv X pins σ H s /\ CXq X.prog X.w X.stack H s (DX σ) e s'
def PXQ (X : Cx) (st : Stmt) (t : TSX) : Prop := ∀ (pins : List (Addr × Obj)) (s : Shared) (σ : St) (H : Hp) (D : Ends) (DX : St -> XK), Inv X pins σ H s -> t D DX σ H -> wpAny (model X.prog X.w) X.A (exec st X.env) (SP X pins D) (XPQ X pins DX) s
def PXQs (X : Cx) (st : List Stmt) (t : TSX) : Prop := ∀ (pins : List (Addr × Obj)) (s : Shared) (σ : St) (H : Hp) (D : Ends) (DX : St -> XK), Inv X pins σ H s -> t D DX σ H -> wpAny (model X.prog X.w) X.A (execs st X.env) (SP X pins D) (XPQ X pins DX) s
section
variable {X : Cx}
theorem pxqs_one {st : Stmt} {t : TSX} (h : PXQ X st t) : PXQs X [st] t := by
  intro pins s σ H D DX I ht
  refine wpAny_execs_cons (thn (h pins s σ H D DX I ht) fun f s1 q => ?_)
  cases f with
  | next => exact wpAny_execs_nil q
  | ret v => exact q
  | brk => exact q
  | cont => exact q
theorem run_xq {k : Nat} {x : Str} {ps : List Str} {sp : Sp} {e : Expr} {es : List Expr} {ta : TA} {p pos : Pos} {pins : List (Addr × Obj)} {s : Shared} {σ : St} {H : Hp} {Q : VK} {DX : St -> XK} (D : DefQ X.prog X.w X.K X.mg X.base k x ps sp) (hr : Room k X.A) (hg : Gl X x) (ha : PA X (e :: es) ta) (hxe : ∀ e s, X.xe e s -> False)
    (hdb : (x == ("__debug__" : Str)) = false) (he : starEach (e :: es) X.env = (false, eval e X.env) :: starEach es X.env) (hpl : (backTo pos (starEach es X.env)).any (·.1) = false)
    (I : Inv X pins σ H s) (h : ta σ H fun vs H1 => sp (vs ++ []) H1 Q (DX σ)) : wpAny (model X.prog X.w) X.A (eval (.Call (.Name x p) (e :: es) [] pos) X.env) (EP X pins σ Q) (XPQ X pins DX) s := by
  obtain ⟨f, fd, F, bd, m, kp⟩ := D.ex
  refine wpAny_Call_Name_kw (ld_glob I hg m ?_ hdb)
  refine PySem.W.callWith_K (h₀ := X.base) I.ok.mod.kin kp (wpAny_mono (ha pos pins s σ H _ I h) (fun us s1 ⟨vs, H1, I1, r, q⟩ => ⟨I1.kIn, ?_⟩) fun _ _ z => (hxe _ _ z).elim) he hpl
  have r2 : Vals (vs ++ []) (us ++ []) := r.append .nil
  have hl : (us ++ []).length = ps.length := by rw [<- r2.length]; exact F.len _ _ _ _ q
  refine wpAny_call (codeAny_mono (F.run X.A X.stack s1 H1 ⟨us, []⟩ (us ++ []) (vs ++ []) _ _ hr I1.env0 (bd s1 us I1.kIn hl) r2 q) fun r s' hq => ?_)
  cases r with
  | ok fl =>
    cases fl with
    | ret u => exact I1.after hq
    | next => exact False.elim hq
    | brk => exact False.elim hq
    | cont => exact False.elim hq
  | error ev => exact ⟨σ, H1, s1, I1, hq⟩
theorem pxq_call {k : Nat} {x : Str} {ps : List Str} {sp : Sp} {e : Expr} {es : List Expr} {ta : TA} {p pos epos : Pos} (D : DefQ X.prog X.w X.K X.mg X.base k x ps sp) (hr : Room k X.A) (hg : Gl X x) (ha : PA X (e :: es) ta) (hxe : ∀ e s, X.xe e s -> False)
    (hdb : (x == ("__debug__" : Str)) = false := by decide) (he : starEach (e :: es) X.env = (false, eval e X.env) :: starEach es X.env := by rfl) (hpl : (backTo pos (starEach es X.env)).any (·.1) = false := by rfl)
    (hs : swapsWith (.Call (.Name x p) (e :: es) [] pos) none epos.line X.env = pure false := by rfl) : PXQ X (.Expr (.Call (.Name x p) (e :: es) [] pos) epos) (xCall sp ta) := by
  intro pins s σ H D0 DX I h
  exact wpAny_Expr_any (thn (run_xq D hr hg ha hxe hdb he hpl I h) fun v s1 ⟨x, H1, I1, r1, q1⟩ => ⟨σ, H1, I1, q1⟩) I.quiet hs
def tTryQ (K : Frag) (tbody : TSX) (i : Nat) (W : Addr) (tb : TS) : TS := fun D σ H => tbody D (fun σ1 c od H2 => ∃ C, c = .ref C /\ subIn K (.ref C) (.ref W) = some true /\
  ∀ ea, H2 ea = none -> tb { D with nx := fun σ' H' => D.nx (σ'.set i none) H', bk := fun _ _ => False, ct := fun _ _ => False } (σ1.set i (some (.ref ea))) (upd H2 ea (excP ea C od))) σ H
theorem ps_tryQ {i : Nat} {cx n : Str} {tbody : TSX} {body : List Stmt} {tb : TS} {b0 : Stmt} {suite : List Stmt} {W : Addr} {bmW : List Value} {np hpos tpos : Pos} (hgc : Gl X cx) (hmc : X.mg cx = some (.ref W)) (hW : excB X.K W bmW = true) (hN : X.N.Nodup) (hi : X.N[i]? = some n) (hlo : X.env.scope.names.lookup n = some .local)
    (hbody : PXQs X body tbody) (hb : ∀ v, PSs (X.marked v) (b0 :: suite) tb) (hst : X.stack = X.env :: X.outer) (hfr : X.env.frame = some X.env.locals) (hdc : (cx == ("__debug__" : Str)) = false := by decide) :
    PS X (.Try body [.ExceptHandler (some (.Name cx np)) (some n) (b0 :: suite) hpos] [] [] tpos) (tTryQ X.K tbody i W tb) := by
  intro pins s σ H D0 I0 h
  refine wpAny_Try_except (wpAny_mono (hbody pins s σ H D0 _ I0 h) (fun fl s1 q => ?_) fun ev s' hx => ?_)
  · cases fl with
    | next => exact wpAny_execs_nil q
    | ret v => exact q
    | brk => exact q
    | cont => exact q
  · obtain ⟨σ1, H1, s1, I1, ea, C, a0, B, H', od, rfl, os, bare, un, hok, fly, kB, di, C', eC, sb, tq⟩ := hx
    cases eC
    have inv : ∀ h', B.StaysIn h' -> s'.heap.UpToSlots h' -> Inv X pins σ1 H' { s' with heap := h' } := fun h' a b => caught_inv I1 os bare un hok fly.2.2.1 kB a b
    obtain ⟨oe, ve, _, _, _, heo, ⟨_, _⟩, hdo, _⟩ := fly.2.2.2
    have nfr : ea ∉ frs X.stack := fun hm => frames_nf fly.2.2.1 hm heo ve hdo
    have fresh1 : s1.heap.get? ea = none := by
      cases z : s1.heap.get? ea with
      | none => rfl
      | some q1 =>
        have := kB ea oe heo (.inl ⟨q1, z⟩) nfr
        rw [fly.2.1] at this
        cases this
    have freshH : H' ea = none := by
      cases z : H' ea with
      | none => rfl
      | some q1 =>
        have := kB ea oe heo (.inr ⟨q1, z⟩) nfr
        rw [fly.2.1] at this
        cases this
    have hA : X.A.frames = some (X.env :: X.outer) := by rw [<- hst]; exact I1.ok.frames
    have fly' := fly
    rw [hst] at fly'
    refine looks_onD hA hfr fly' fun h4 held4 up4 ds4 => ?_
    refine landsD held4 fun h5 fly5 up5 ds5 => ?_
    have up45 := up4.trans up5
    have J5 := inv h5 fly5.1 up45
    refine wpAny_handleBy_cons (codeAny_handlers_test ?_) (by intro z; cases z)
    refine ld_glob (X := X.marked (.ref ea)) (Inv.mark J5) hgc hmc ?_ hdc
    obtain ⟨oe5, he5, hc5⟩ := fly5.there
    refine xc_matches J5.kIn hW sb he5 hc5 ?_
    refine codeAny_handlers_suite_as ?_
    refine lands_againD fly5 fun h6 fly6 up6 ds6 => ?_
    have J6 := inv h6 fly6.1 (up45.trans up6)
    obtain ⟨oe6, he6, hc6⟩ := fly6.there
    obtain ⟨oe6', ve6, _, _, _, he6', _, hd6, _⟩ := fly6.2.2.2
    rw [he6] at he6'
    cases he6'
    have gone : ∀ b o, s1.heap.get? b = some o -> b ≠ ea := fun b o z q => by rw [q, fresh1] at z; cases z
    have J7 : Inv X pins σ1 (upd H' ea (excP ea C od)) { s' with heap := h6 } := by
      refine J6.track freshH (excP_ok ⟨oe6, ve6, he6, hc6, hd6, (by obtain ⟨o, h1, h2, h4⟩ := di; exact fun dx e => (((ds4.trans ds5).trans ds6).at h1 he6).1.trans (h2 dx e)), (by obtain ⟨o, h1, h2, h4⟩ := di; have z := (((ds4.trans ds5).trans ds6).at h1 he6).2.trans h4; unfold fld2 at z; rw [hd6] at z; exact z)⟩) ?_ ?_ ?_ ?_
      · obtain ⟨_, ⟨o, _, _, z, _⟩, _⟩ := I1.loc
        exact Ne.symm (gone _ o z)
      · intro y c z
        obtain ⟨_, o, z2, _⟩ := I1.cell y c z
        exact gone _ o z2
      · intro p0 hp0
        exact gone _ _ (I1.pin p0 hp0).1
      · intro b u z hx
        obtain ⟨o', z2⟩ := I1.base.there b u z hx
        exact gone _ o' z2
    refine store_ok J7 hN hi (.inl hlo) (show RelV (.ref ea) (.ref ea) from rfl) (fun s8 J8 => ?_) (.inr hlo)
    refine wpAny_mono (hb (.ref ea) pins s8 _ _ _ (Inv.mark J8) (tq ea freshH)) (fun fl s9 q9 => ?_) fun _ _ z => z.elim
    cases fl with
    | next =>
      obtain ⟨σ9, H9, J9, q⟩ := q9
      exact unbind_ok (X := X) (Inv.unmark J9 I1.ok.hd) hN hi hlo fun s10 J10 => ⟨_, H9, J10, q⟩
    | ret u =>
      obtain ⟨v, σ9, H9, J9, r9, q⟩ := q9
      exact unbind_ok (X := X) (Inv.unmark J9 I1.ok.hd) hN hi hlo fun s10 J10 => ⟨v, _, H9, J10, r9, q⟩
    | brk =>
      obtain ⟨_, _, _, q⟩ := q9
      exact False.elim q
    | cont =>
      obtain ⟨_, _, _, q⟩ := q9
      exact False.elim q
end
end L2
namespace L2
open PySem PySem.Spec PyProof.Rows PySem.W
section
variable {K : Frag} {prog : Program} {w : World} {A : Around} {E : Value -> Shared -> Prop} {h : Heap} {g : Array GenState} {d : Drawn} {t : Nat} {os : OsState} {a C dx : Addr} {vs : Array Value} {sl : Array (Option Value)} {f : Str} {v : Value} {mA : Str -> Option Value} {cc : Value} {cdd : Option Addr} {cd : ClassData} {csl : Array (Option Value)}
end
section
variable {X : Cx} {e : Expr} {f : Str} {pos : Pos} {ta : TE}
end
end L2
namespace L2
open PySem PySem.Spec PyProof.Rows PySem.W
section
variable {K : Frag} {prog : Program} {w : World} {A : Around} {E : Value -> Shared -> Prop} {h : Heap} {g : Array GenState} {d : Drawn} {t : Nat} {os : OsState} {C fI : Addr} {oI : Obj} {bm : List Value}
end
end L2
namespace L2
open PySem PySem.Spec PyProof.Rows PySem.W PySem.Builtin PySem.Builtin.ObjectAttr
section
variable {K : Frag} {prog : Program} {w : World} {A : Around} {E : Value -> Shared -> Prop} {s : Shared} {a C : Addr} {vs : Array Value} {f : Str} {v : Value}
end
end L2
namespace L2
open PySem PySem.Spec PyProof.Rows PySem.W
section
variable {K : Frag} {prog : Program} {w : World} {A : Around} {E : Value -> Shared -> Prop} {h : Heap} {g : Array GenState} {d : Drawn} {t : Nat} {os : OsState} {e C : Addr} {bm : List Value}
end
section
variable {X : Cx}
end
end L2
namespace L2
open PySem PySem.Spec PyProof.Rows PySem.W
section
variable {P : Program} {w : World} {K : PySem.W.Frag} {mg : Str -> Option Value} {base : Heap} {N : List Str} {qual : Str} {scope : Scope} {f : Addr} {cd : Value} {A : Around} {outer : List Env} {s0 : Shared} {H0 : Hp} {E : XK}
end
section
variable {M : Model} {A : Around} {E : Value -> Shared -> Prop} {env : Env} {K : Frag} {C : Addr} {bm : List Value}
end
end L2
namespace L2
open PySem PySem.Spec PyProof.Rows PySem.W
section
variable {P : Program} {w : World} {K : PySem.W.Frag} {mg : Str -> Option Value} {base : Heap} {N : List Str} {qual : Str} {scope : Scope} {f : Addr} {cd : Value} {A : Around} {outer : List Env} {s0 : Shared} {H0 : Hp} {E : XK}
end
end L2
namespace L2
open PySem PySem.Spec PyProof.Rows
def cxCompX (X : Cx) (scope : Scope) (N' : List Str) (fp : List Addr) (C : Addr) (s : Shared) (H : Hp) (EX : XK) : Cx :=
  { cxComp X scope N' fp C s H with xe := fun e s' => ∃ pins' σ' H1 s1, Inv (cxComp X scope N' fp C s H) pins' σ' H1 s1 /\ CXq X.prog X.w X.stack H1 s1 EX e s' }
theorem compX {X : Cx} {scope : Scope} {N' : List Str} {fp : List Addr} {C : Addr} {s : Shared} {H : Hp} {EX : XK} {pins : List (Addr × Obj)} {σ : St} {H1 : Hp} {s1 : Shared} (I : Inv (cxComp X scope N' fp C s H) pins σ H1 s1) : Inv (cxCompX X scope N' fp C s H EX) pins σ H1 s1 :=
  ⟨⟨I.ok.mod, I.ok.kind, I.ok.glob, I.ok.blt, I.ok.above, I.ok.inj, I.ok.has, I.ok.cab, I.ok.hd, I.ok.frames, I.ok.stk, I.ok.exf, I.ok.bs, I.ok.bsz, I.ok.noex, I.ok.exfs, I.ok.funs, I.ok.frf⟩, I.os, I.bare, I.base, I.loc, I.cell, I.free, I.freeC, I.pin, I.hok, I.len⟩
theorem compU {X : Cx} {scope : Scope} {N' : List Str} {fp : List Addr} {C : Addr} {s : Shared} {H : Hp} {EX : XK} {pins : List (Addr × Obj)} {σ : St} {H1 : Hp} {s1 : Shared} (I : Inv (cxCompX X scope N' fp C s H EX) pins σ H1 s1) : Inv (cxComp X scope N' fp C s H) pins σ H1 s1 :=
  ⟨⟨I.ok.mod, I.ok.kind, I.ok.glob, I.ok.blt, I.ok.above, I.ok.inj, I.ok.has, I.ok.cab, I.ok.hd, I.ok.frames, I.ok.stk, I.ok.exf, I.ok.bs, I.ok.bsz, I.ok.noex, I.ok.exfs, I.ok.funs, I.ok.frf⟩, I.os, I.bare, I.base, I.loc, I.cell, I.free, I.freeC, I.pin, I.hok, I.len⟩
theorem passC {X : Cx} {scope : Scope} {N' : List Str} {fp : List Addr} {C : Addr} {s : Shared} {H : Hp} {EX : XK} : Passes (CXq X.prog X.w) (cxCompX X scope N' fp C s H EX) EX := fun pins σ H1 s1 _ _ I h => ⟨pins, σ, H1, s1, compU I, h⟩
section
variable {prog : Program} {w : World} {A : Around} {R : Result -> Shared -> Prop} {s : Shared}
theorem comp_loopX {Er : Value -> Shared -> Prop} {elt tg iter : Expr} {ifs : List Expr} {scope : Scope} {pos : Pos} {it acc : Value} {env : Env} (J : Nat -> Shared -> Prop)
    (turn : ∀ n s, J n s -> wpAny (model prog w) A (pyNext it) (fun r s1 => match r with
      | none => R (.ok .next) s1
      | some v => wpAny (model prog w) A (letOwnedTupleGo tg it v) (fun _ s2 => wpAny (model prog w) A (assign tg env v) (fun _ s3 =>
          wpAny (model prog w) A (forIn ifs true fun c r => if r = true then do
            let ok <- isTrue c env (eval c env)
            pure (ForInStep.yield ok) else pure (ForInStep.yield r)) (fun ok s4 =>
              if ok = true then wpAny (model prog w) A (eval elt env) (fun x s5 =>
                wpAny (model prog w) A (call (.builtin "list.append") [acc, x]) (fun _ s6 => ∃ m, m < n /\ J m s6) Er s5) Er s4
              else ∃ m, m < n /\ J m s4) Er s3) Er s2) Er s1) Er s)
    (hE : ∀ e s, Er e s -> wpAny (model prog w) A (do noteFrame e env; theTreesLotGoes e) (fun _ s' => R (.error e) s') (fun e' s' => R (.error e') s') s) (n : Nat) (h : J n s) : codeAny (model prog w) A (.compLoop (.ListComp elt [⟨tg, iter, ifs, 0⟩] scope pos) 0 it acc env) R s := by
  refine codeAny_loop rfl J (fun k s1 hJ => ?_) n h
  show wpAny _ A ((compTurn (.ListComp elt [⟨tg, iter, ifs, 0⟩] scope pos) 0 it acc env).onRaise (fun y => do noteFrame y env; theTreesLotGoes y)) _ _ s1
  refine wpAny_onRaise (wpAny_mono (E := Er) ?_ (fun _ _ q => q) fun e s z => hE e s z)
  rw [compTurn_list]
  refine wpAny_bind (wpAny_standAt (wpAny_bind (thn (turn k s1 hJ) fun r s2 h2 => ?_)))
  cases r with
  | none => exact wpAny_pure h2
  | some v =>
    refine wpAny_bind (thn h2 fun _ s3 h3 => wpAny_bind (thn h3 fun _ s4 h4 => wpAny_bind (thn h4 fun ok s5 h5 => ?_)))
    cases ok with
    | false => exact wpAny_pure ⟨rfl, h5⟩
    | true =>
      refine wpAny_bind (wpAny_bind (thn h5 fun x s6 h6 => wpAny_bind (thn h6 fun _ s7 h7 => ?_)))
      exact wpAny_pure (wpAny_pure ⟨rfl, h7⟩)
end
section
variable {X : Cx} {scope : Scope} {N' : List Str} {fr : List (Option Nat)} {pins : List (Addr × Obj)} {σ : St} {H : Hp} {s : Shared} {fp : List Addr} {it : Addr} {tn : Nat -> Heap -> Prop} {J : It}
  {elt tg iter : Expr} {ifs : List Expr} {g : TG} {tt : TT} {te : TE} {pos : Pos} {fin : List V -> Hp -> Prop} {W : Nat -> Nat -> List V -> St -> Hp -> Prop} {RR : Value -> Addr -> Result -> Shared -> Prop} {E : Value -> Shared -> Prop}
theorem comp_blockX {EX : XK} (c : CompOk X scope N' fr) (hc : X.calm = true) (I : Inv X pins σ H s) (T : Turn X.prog X.w X.K tg J fp it tn) (st : tn 0 s.heap) (hf : ∀ b ∈ fp, FpOk X pins H b)
    (hg : ∀ fp C s H, PG (cxCompX X scope N' fp C s H EX) tg g) (ht : ∀ fp C s H, PIfs (cxCompX X scope N' fp C s H EX) ifs tt) (he : ∀ fp C s H, PE (cxCompX X scope N' fp C s H EX) elt te)
    (hW : CompW J g tt te fin W) (h0 : ∃ m, W 0 m [] (stComp fr σ) H)
    (hRE : ∀ D C pins' σ' H1 s1 e s', s.heap.objs.size <= D -> s.heap.objs.size <= C -> D ≠ C -> Inv (cxComp X scope N' fp C s H) pins' σ' H1 s1 -> CXq X.prog X.w X.stack H1 s1 EX e s' -> wpAny (model X.prog X.w) X.A (do noteFrame e (compEnvC scope (clOf X.env scope.names []) C X.env); theTreesLotGoes e) (fun _ s'' => RR (.ref D) C (.error e) s'') (fun e' s'' => RR (.ref D) C (.error e') s'') s')
    (hRR : ∀ D C ys H' s', Inv X pins σ (upd H' D (.lst ys)) s' -> (∃ m, s'.heap.Ns C m) -> FpOk X pins (upd H' D (.lst ys)) C -> H' D = none -> fin ys H' -> RR (.ref D) C (.ok .next) s') :
    wpAny (model X.prog X.w) X.A (newList []) (fun acc s3 => wpAny (model X.prog X.w) X.A (newFunctionEnv scope X.env.globals (clOf X.env scope.names []) [] X.env.qual none .none (some X.env)) (fun cenv s4 =>
      codeAny (model X.prog X.w) X.A (.compStart (.ListComp elt [⟨tg, iter, ifs, 0⟩] scope pos) 0 (.ref it) acc { cenv with scope := relabel scope X.env }) (RR acc cenv.locals) s4) E s3) E s := by
  refine wpAny_newObj_type (wpAny_newFunctionEnv c.cells (by intro y hy; simp at hy) (fun h1 hns hsb => ?_) c.kind)
  dsimp only at hns hsb ⊢
  generalize hH2 : s.heap.push { cls := .type "list", dict := none, data := .seq ([] : List Value).toArray } = H2 at hns hsb ⊢
  have hD0 : s.heap.objs.size < H2.objs.size := by rw [<- hH2, Heap.size_push]; exact Nat.lt_succ_self _
  generalize hDD : s.heap.objs.size = D at hD0 ⊢
  generalize hCC : H2.objs.size = C at hns hsb hD0 ⊢
  have up : ∀ b o, s.heap.get? b = some o -> h1.get? b = some o := fun b o e => hsb.extBut b o (by
    have := Heap.lt_size e
    rw [hDD] at this
    exact Nat.ne_of_lt (Nat.lt_trans this hD0)) (Heap.get?_push_of_some _ (by rw [<- hH2]; exact Heap.get?_push_of_some _ e))
  have accD : h1.get? D = some { cls := .type "list", dict := none, data := .seq ([] : List Value).toArray } := hsb.extBut _ _ (Nat.ne_of_lt hD0) (Heap.get?_push_of_some _ (by rw [<- hH2, <- hDD]; exact Heap.get?_push_size _ rfl))
  have hlt : ∀ b ∈ fp, b < s.heap.objs.size := fun b hb => by
    obtain ⟨o, e, _⟩ := T.obj 0 _ st b hb
    exact Heap.lt_size e
  have hle : s.heap.objs.size <= C := by rw [hDD]; exact Nat.le_of_lt hD0
  generalize hX' : cxCompX X scope N' fp C s H EX = X'
  have I1 : Inv X' pins (stComp fr σ) H { s with heap := h1, toks := s.toks + ([] : List (Str × Value)).length } := by
    subst hX'
    exact compX (inv_comp c hc I hf hlt up hle hns)
  have st1 : tn 0 h1 := T.keep _ _ _ st fun b hb o e => up b o e
  have pm : X'.prog = X.prog := by subst hX'; rfl
  have wm : X'.w = X.w := by subst hX'; rfl
  have km : X'.K = X.K := by subst hX'; rfl
  have cm : X'.calm = true := by subst hX'; rfl
  have am : X'.A = X.A := by subst hX'; rfl
  have xm : ∀ e s', X'.xe e s' -> ∃ pins' σ' H1 s1, Inv (cxComp X scope N' fp C s H) pins' σ' H1 s1 /\ CXq X.prog X.w X.stack H1 s1 EX e s' := by subst hX'; exact fun _ _ z => z
  have lm : X'.env.locals = C := by subst hX'; rfl
  have szm : X'.s₀.heap.objs.size = s.heap.objs.size := by subst hX'; rfl
  have nm : X'.pn = X.pn := by subst hX'; rfl
  have hg' := hg fp C s H
  have ht' := ht fp C s H
  have he' := he fp C s H
  have em : X'.env = compEnvC scope (clOf X.env scope.names []) C X.env := by subst hX'; rfl
  have fsm : X'.fs = frs X.stack := by subst hX'; rfl
  have exm : X'.ex = fp := by subst hX'; rfl
  rw [hX'] at hg' ht' he'
  have ageP : ∀ p ∈ X.pn ++ pins, p.1 < D := fun p hp => by rw [<- hDD]; exact Heap.lt_size (I.pin p hp).1
  have ageC : ∀ x d, X'.env.cells.lookup x = some d -> d < D := fun x d e => by
    rw [em] at e
    rcases clOf_get scope.names [] (c.has I.ok) e with q | q
    · simp at q
    · obtain ⟨v, z⟩ := I.cell x d q
      rw [<- hDD]
      exact z.lt
  have cellF : ∀ x d, X'.env.cells.lookup x = some d -> X.env.cells.lookup x = some d := fun x d e => by
    rw [em] at e
    rcases clOf_get scope.names [] (c.has I.ok) e with q | q
    · simp at q
    · exact q
  have fps : ∀ {H' : Hp} {oD : Obj}, (∀ b ∈ fp, H' b = none) -> ∀ b ∈ fp, FpOk X' (pins ++ [(D, oD)]) H' b := fun {H' oD} hn b hb => by
    obtain ⟨_, f1, f2, f3, f4, f5⟩ := hf b hb
    have hbD : b < D := by rw [<- hDD]; exact hlt b hb
    refine ⟨hn b hb, ?_, ?_, .inl (by rw [exm]; exact hb), fun x d e => f4 x d (cellF x d e), fun p hp => ?_⟩
    · rw [lm]; exact Nat.ne_of_lt (Nat.lt_trans hbD hD0)
    · rw [fsm]
      intro hs
      rcases List.mem_cons.mp (I.stkSub b hs) with z | z
      · exact f1 z
      · exact f2 z
    · rw [nm, <- List.append_assoc] at hp
      rcases List.mem_append.mp hp with z | z
      · exact f5 p z
      · rw [List.mem_singleton.mp z]
        exact Nat.ne_of_gt hbD
  have pinD : ∀ {σ' : St} {H' : Hp} {s' : Shared} {its : List Value} {k : Nat}, Inv X' pins σ' H' s' -> s'.heap.get? D = some { cls := .type "list", data := .seq its.toArray k } -> H' D = none ->
      Inv X' (pins ++ [(D, { cls := .type "list", data := .seq its.toArray k })]) σ' H' s' := fun {σ' H' s' its k} J0 e n => J0.pins_of fun p hp => by
    rcases List.mem_append.mp hp with z | z
    · exact J0.pin p (List.mem_append_right _ z)
    · rw [List.mem_singleton.mp z]
      refine ⟨e, n, ?_, ?_, fun v q => by cases q⟩
      · show D ≠ X'.env.locals
        rw [lm]
        exact Nat.ne_of_lt hD0
      · rw [fsm]
        intro hs
        have hb := I.stkSub D hs
        rcases List.mem_cons.mp hb with z | z
        · have := I.lt
          rw [<- z, hDD] at this
          exact Nat.lt_irrefl _ this
        · exact I.nofs (Nat.le_of_eq hDD) z
  have loop : ∀ s0 : Shared, s0 = { s with heap := h1, toks := s.toks + ([] : List (Str × Value)).length } ->
      codeAny (model X.prog X.w) X.A (.compLoop (.ListComp elt [⟨tg, iter, ifs, 0⟩] scope pos) 0 (.ref it) (.ref D) X'.env) (RR (.ref D) C) s0 := by
    rintro s0 rfl
    obtain ⟨m0, w0⟩ := h0
    refine comp_loopX (Er := X'.xe) (fun n s' => ∃ i ys σ' H' its k, Inv X' pins σ' H' s' /\ tn i s'.heap /\ (∀ b ∈ fp, H' b = none) /\ s'.heap.get? D = some { cls := .type "list", data := .seq (its : List Value).toArray k } /\ H' D = none /\ Vals ys its /\ W i n ys σ' H')
      ?_ (fun e s z => by obtain ⟨pins', σ', H1, s1, z1, z2⟩ := xm e s z; rw [em]; exact hRE D C pins' σ' H1 s1 e s (by rw [hDD]; exact Nat.le_refl _) hle (Nat.ne_of_lt hD0) z1 z2) m0 ⟨0, [], stComp fr σ, H, [], 0, I1, st1, fun b hb => (hf b hb).1, accD, I.hok.fresh (by rw [hDD]; exact Nat.le_refl _), .nil, w0⟩
    rintro n s1 ⟨i, ys, σ1, H1, its, k, J1, t1, n1, d1, nD1, v1, w1⟩
    have J1' := pinD J1 d1 nD1
    rcases hW i n ys σ1 H1 w1 with ⟨stop, hlen, fi⟩ | ⟨go, hlen, step⟩
    · have a1 := T.done X' pm wm km cm i _ s1 σ1 H1 X'.xe J1' (fps n1) t1 stop
      rw [am] at a1
      refine thn a1 fun r s2 ⟨hr, J2⟩ => ?_
      subst hr
      obtain ⟨d2, nD2, _⟩ := J2.pin (D, _) (List.mem_append_right _ (List.mem_append_right _ List.mem_cons_self))
      have u2 : Un (frs X.stack) fp H H1 s.heap s2.heap := by
        have := J2.base
        subst hX'
        exact this
      have hok2 : HOk X.prog X.w (upd H1 D (.lst ys)) s2.heap := by
        have h2 := J2.hok
        rw [pm, wm] at h2
        exact h2.track nD1 ⟨hlen, its, k, v1, d2⟩
      have J3 : Inv X pins σ (upd H1 D (.lst ys)) s2 := by
        refine I.call' (ch := fp) (by have := J2.os; subst hX'; exact this) ⟨fun b o e n hb hx => u2.keep b o e n hb hx, fun b o e n hb hx => u2.slot b o e n hb hx, fun b o e n hx => ?_, fun b o e hx => u2.there b o e hx, fun b xs e => ?_, fun b o u e => ?_, fun b ps e => ?_⟩ hok2 J2.bare fun b hb => ?_
        · have ne : b ≠ D := Nat.ne_of_lt (by rw [<- hDD]; exact Heap.lt_size e)
          rw [upd_ne ne]
          exact u2.free b o e n hx
        · have q := u2.tups b xs e
          rw [upd_ne (ne_of_none q nD1)]
          exact q
        · have q := u2.frzs b o u e
          rw [upd_ne (ne_of_none q nD1)]
          exact q
        · obtain ⟨more, q⟩ := u2.tbls b ps e
          exact ⟨more, by rw [upd_ne (ne_of_none q nD1)]; exact q⟩
        · obtain ⟨_, f1, f2, f3, f4, f5⟩ := hf b hb
          exact ⟨f3, f1, f4, f5⟩
      have nC : (upd H1 D (.lst ys)) C = none := by
        rw [upd_ne (Nat.ne_of_gt hD0)]
        have := J2.free
        rw [lm] at this
        exact this
      refine hRR D C ys H1 s2 J3 ?_ (I.fpOk hle nC) nD1 fi
      obtain ⟨m, hm, _⟩ := J2.loc
      rw [lm] at hm
      exact ⟨m, hm⟩
    · have a1 := T.item X' pm wm km cm i _ s1 σ1 H1 X'.xe J1' (fps n1) t1 go
      rw [am] at a1
      refine thn a1 fun r s2 ⟨u, hr, h2⟩ => ?_
      subst hr
      refine thn h2 fun _ s3 ⟨x, H3, J3, r3, y3, t3, n3⟩ => ?_
      have J3' := J3.pinned (fps n3) (T.obj _ _ t3)
      have a3 := hg' _ s3 σ1 H3 x u _ J3' r3 (step x H3 y3)
      rw [pm, wm, am] at a3
      refine thn a3 fun _ s4 ⟨σ4, H4, J4, q4⟩ => ?_
      have a4 := ht' _ s4 σ4 H4 _ J4 q4
      rw [pm, wm, am] at a4
      refine thn a4 fun ok s5 ⟨H5, J5, q5⟩ => ?_
      have keepT : ∀ {σ' : St} {H' : Hp} {s' : Shared}, Inv X' (pins ++ [(D, { cls := .type "list", data := .seq its.toArray k })] ++ pinsAt fp s3.heap) σ' H' s' -> tn (i + 1) s'.heap /\ (∀ b ∈ fp, H' b = none) /\ s'.heap.get? D = some { cls := .type "list", data := .seq its.toArray k } /\ H' D = none /\ Inv X' pins σ' H' s' := fun {σ' H' s'} J0 => by
        refine ⟨T.keep _ _ _ t3 fun b hb o e => (J0.pin (b, o) (List.mem_append_right _ (List.mem_append_right _ (mem_pinsAt hb e)))).1, fun b hb => ?_, ?_, ?_, J0.unpinned.unpinned⟩
        · obtain ⟨o, e, _⟩ := T.obj _ _ t3 b hb
          exact (J0.pin (b, o) (List.mem_append_right _ (List.mem_append_right _ (mem_pinsAt hb e)))).2.1
        · exact (J0.pin (D, _) (List.mem_append_right _ (List.mem_append_left _ (List.mem_append_right _ List.mem_cons_self)))).1
        · exact (J0.pin (D, { cls := .type "list", data := .seq its.toArray k }) (List.mem_append_right _ (List.mem_append_left _ (List.mem_append_right _ List.mem_cons_self)))).2.1
      cases ok with
      | false =>
        obtain ⟨m', hm, w'⟩ := q5
        obtain ⟨e1, e2, e3, e4, e5⟩ := keepT J5
        rw [if_neg Bool.false_ne_true]
        exact ⟨m', hm, i + 1, ys, σ4, H5, its, k, e5, e1, e2, e3, e4, v1, w'⟩
      | true =>
        rw [if_pos rfl]
        have a5 := he' _ s5 σ4 H5 _ J5 q5
        rw [pm, wm, am] at a5
        refine thn a5 fun u6 s6 ⟨y, H6, J6, r6, m', hm, w6⟩ => ?_
        obtain ⟨e1, e2, e3, e4, e5⟩ := keepT J6
        refine append_at (hsz := by show its.toArray.size <= sizeLine; rw [List.size_toArray, <- v1.length]; exact Nat.le_of_lt hlen) e3 fun h7 sb7 d7 => ?_
        have J7 : Inv X' pins σ4 H6 { s6 with heap := h7 } := e5.turned (t' := s6.toks) (it := D) (fun b o hb e => sb7.extBut b o hb e) e4 (by rw [lm]; exact Nat.ne_of_lt hD0) (.inr (by rw [szm, hDD]; exact Nat.le_refl _)) (fun x d e => Nat.ne_of_lt (ageC x d e)) fun p hp => by
          rw [nm] at hp
          exact Nat.ne_of_lt (ageP p hp)
        refine ⟨m', hm, i + 1, ys ++ [y], σ4, H6, its ++ [u6], k + 1, J7, T.keep _ _ _ e1 fun b hb o e => sb7.extBut b o (Nat.ne_of_lt (by rw [<- hDD]; exact hlt b hb)) e, e2, ?_, e4, v1.append (.cons r6 .nil), w6⟩
        rw [d7, List.push_toArray]
  have env1 : ({ newEnv scope C X.env.globals (clOf X.env scope.names []) X.env.qual none .none (some X.env) 0 with scope := relabel scope X.env } : Env) = X'.env := by rw [em]; rfl
  have lp := loop _ rfl
  rw [em] at lp
  exact codeAny_compStart_list lp (T.self _ 0 _ _ _ st1 lp)
end
theorem asm_on {P : Program} {w : World} {K : PySem.W.Frag} {mg : Str -> Option Value} {base : Heap} {N : List Str} {qual : Str} {scope : Scope} {f : Addr} {cd : Value} {A : Around} {outer : List Env} {s0 : Shared} {H0 : Hp} {E : XK}
    {pins : List (Addr × Obj)} {σ : St} {H H' : Hp} {s s' : Shared} {ea C : Addr} {a0 : Value} {B h' : Heap} {od : Option Addr} (I : Inv (cxOf (CXq P w) P w K mg base N qual scope f cd A outer s0 H0 E) pins σ H s) (os : s'.os = s.os) (bare : AllBare s'.gens)
    (un : Un (frs (envOfC qual scope s0.heap.objs.size f cd :: outer)) [] H H' s.heap s'.heap) (hok : HOk P w H' s'.heap) (fr0 : s'.heap.FunFrames B (envOfC qual scope s0.heap.objs.size f cd :: outer))
    (kB : ∀ b o, s'.heap.get? b = some o -> ((∃ q, s.heap.get? b = some q) \/ ∃ q, H' b = some q) -> b ∉ frs (envOfC qual scope s0.heap.objs.size f cd :: outer) -> B.get? b = some o) (fly' : Heap.FlyingW B outer ea (.ref C) a0 h') (up : s'.heap.UpToSlots h') (di : DictIs h' ea od) (q : E (.ref C) od H') :
    CXq P w outer H0 s0 E (.ref ea) { s' with heap := h' } := by
  have eS : frs (envOfC qual scope s0.heap.objs.size f cd :: outer) = s0.heap.objs.size :: frs outer := rfl
  have fsub : ∀ b, b ∉ frs outer -> b ≠ s0.heap.objs.size -> b ∉ frs (envOfC qual scope s0.heap.objs.size f cd :: outer) := fun b h1 h2 hb => by
    rw [eS] at hb
    exact (List.mem_cons.mp hb).elim h2 h1
  have fin : ∀ b, b ∈ frs outer -> b ∈ frs (envOfC qual scope s0.heap.objs.size f cd :: outer) := fun b hb => by rw [eS]; exact List.mem_cons_of_mem _ hb
  have ne0 : ∀ b o, s0.heap.get? b = some o -> b ≠ s0.heap.objs.size := fun b o z => Nat.ne_of_lt (Heap.lt_size z)
  have BS : Un (frs outer) [] H0 H s0.heap s.heap := I.base
  have un' : Un (frs (envOfC qual scope s0.heap.objs.size f cd :: outer)) [] H H' s.heap s'.heap := un
  have sl : ∀ b o, b ∈ frs outer -> s'.heap.get? b = some o -> ∃ sl, h'.get? b = some { o with slots := sl } := fun b o hb z => up b o z (frames_nf fr0 (fin b hb) z)
  have kB' : ∀ b o, s'.heap.get? b = some o -> ((∃ q, s.heap.get? b = some q) \/ ∃ q, H' b = some q) -> b ∉ frs (envOfC qual scope s0.heap.objs.size f cd :: outer) -> B.get? b = some o := kB
  have trf : ∀ b, b ∈ frs (envOfC qual scope s0.heap.objs.size f cd :: outer) -> H' b = none := fun b hb => by
    obtain ⟨_, o, z1, _⟩ := (show s.heap.FunFrames base (envOfC qual scope s0.heap.objs.size f cd :: outer) from I.stack).mem hb
    exact un'.free b o z1 (I.stkFree b hb) (by simp)
  refine ⟨ea, C, a0, B, H', od, rfl, os.trans I.os, bare, ⟨fun b o z n hb hx => ?_, fun b o z n hb hx => ?_, fun b o z n hx => ?_, fun b o z hx => ?_, fun b xs z => un'.tups b xs (BS.tups b xs z), fun b o u z => un'.frzs b o u (BS.frzs b o u z), fun b ps z => ?_⟩, ?_, fly', fun b o z hh hb => ?_, di, q⟩
  · have z1 := BS.keep b o z n hb hx
    have z2 := un'.keep b o z1 (BS.free b o z n hx) (fsub b hb (ne0 b o z)) (by simp)
    exact fly'.1 b o (kB' b o z2 (.inl ⟨o, z1⟩) (fsub b hb (ne0 b o z)))
  · obtain ⟨s1, z1⟩ := BS.slot b o z n hb hx
    obtain ⟨s2, z2⟩ := un'.slot b _ z1 (BS.free b o z n hx) (fin b hb) (by simp)
    obtain ⟨s3, z3⟩ := sl b _ hb z2
    exact ⟨s3, z3⟩
  · obtain ⟨o', z1⟩ := BS.there b o z hx
    exact un'.free b o' z1 (BS.free b o z n hx) (by simp)
  · obtain ⟨o1, z1⟩ := BS.there b o z hx
    obtain ⟨o2, z2⟩ := un'.there b o1 z1 (by simp)
    by_cases hb : b ∈ frs outer
    · obtain ⟨s3, z3⟩ := sl b _ hb z2
      exact ⟨_, z3⟩
    · exact ⟨_, fly'.1 b o2 (kB' b o2 z2 (.inl ⟨o1, z1⟩) (fsub b hb (ne0 b o z)))⟩
  · obtain ⟨m1, z1⟩ := BS.tbls b ps z
    obtain ⟨m2, z2⟩ := un'.tbls b _ z1
    exact ⟨m1 ++ m2, by rw [z2, Array.append_assoc]⟩
  · refine hok.stays fun b u v hv z => fly'.1 b u (kB' b u z (.inr ⟨v, hv⟩) fun hb => ?_)
    have := trf b hb
    rw [hv] at this
    cases this
  · have ex : ∃ u, s'.heap.get? b = some u /\ B.get? b = some u := by
      rcases hh with ⟨q1, z1⟩ | ⟨q1, z1⟩
      · obtain ⟨o1, z2⟩ := BS.there b q1 z1 (by simp)
        obtain ⟨o2, z3⟩ := un'.there b o1 z2 (by simp)
        exact ⟨o2, z3, kB' b o2 z3 (.inl ⟨o1, z2⟩) (fsub b hb (ne0 b q1 z1))⟩
      · obtain ⟨u, z2⟩ := (hok b q1 z1).there
        refine ⟨u, z2, kB' b u z2 (.inr ⟨q1, z1⟩) fun hm => ?_⟩
        have := trf b hm
        rw [z1] at this
        cases this
    obtain ⟨u, _, hu⟩ := ex
    have := fly'.1 b u hu
    rw [z] at this
    cases this
    exact hu
section
variable {M : Model} {A : Around} {E : Value -> Shared -> Prop} {s : Shared}
theorem noteFrame_alike {e : Value} {env env' : Env} (h : env'.frame = env.frame) : noteFrame e env' = noteFrame e env := by
  unfold noteFrame PySem.frameOf
  rw [h]
theorem leave_any {base : Heap} {env : Env} {outer : List Env} {L e : Addr} {cls a0 fl : Value} {Q : Unit -> Shared -> Prop} (hfr : A.frames = some (env :: outer)) (hl : s.heap.FunFrames base (env :: outer)) (hf : env.frame = some L) (ht : s.heap.TracedAtW base e cls a0 fl) (hkb : base.StaysIn s.heap) (hen : base.get? e = none)
    (hQ : ∀ h', Heap.FlyingW base outer e cls a0 h' -> s.heap.UpToSlots h' -> Q () { s with heap := h' }) : wpAny M A (leaving env (.ref e)) Q E s := by
  by_cases hfl : fl = rawInt L
  · subst hfl
    unfold leaving
    refine wpAny_bind (wpAny_noteFrame_againW hf ht ?_)
    refine wpAny_landsW ⟨hkb, hen, hl, ht⟩ fun h' fly up => ?_
    obtain ⟨k1, k2, ⟨_, _, k3⟩, k4⟩ := fly
    exact hQ h' ⟨k1, k2, k3, k4⟩ up
  · obtain ⟨oe, vs, T, oT, ts, he, ⟨hcls, h0⟩, hd, h1, hnT, hTe, hT, hdT, h3⟩ := ht
    subst hcls
    unfold leaving noteFrame
    simp only [hf]
    refine wpAny_bind (wpAny_bind (wpAny_field he hd h1 ?_))
    rw [if_pos (show (Value.ref T != Value.none) = true from by simp)]
    refine wpAny_bind (wpAny_field hT hdT h3 ?_)
    rw [if_neg (show ¬ ((fl == rawInt L) = true) from fun q => hfl (beq_iff_eq.mp q))]
    refine wpAny_bind (wpAny_setField hT hdT (Array.getElem?_eq_some_iff.mp h3).1 ?_)
    have other : ∀ b, b ≠ T -> (s.heap.update T (Obj.mapFields (·.setIfInBounds 3 Value.none))).get? b = s.heap.get? b := fun b hb => Heap.get?_update_other _ _ (Ne.symm hb)
    have noRec : ∀ b o, s.heap.get? b = some o -> (∀ vs, o.data ≠ .fields vs) -> b ≠ T := fun b o hb hnf q => by
      rw [q, hT] at hb; injection hb with hb; subst hb; exact hnf ts hdT
    refine wpAny_newEntryW hfr (hl.of_keeps fun b o hb hnf => ⟨o, (other b (noRec b o hb hnf)).trans hb, rfl⟩) hf ((other e (Ne.symm hTe)).trans he)
      (fun b o hbo => (other b fun q => by rw [q, hnT] at hbo; cases hbo).trans (hkb b o hbo)) hen hd (Array.getElem?_eq_some_iff.mp h1).1 h0
      fun h' ⟨x1, ⟨_, _, x2⟩, x3, x4⟩ => hQ h' ⟨x1, hen, x2, x3⟩ fun b o hb hnf => x4 b o ((other b (noRec b o hb hnf)).trans hb) hnf
end
section
variable {P : Program} {w : World} {K : PySem.W.Frag} {mg : Str -> Option Value} {base : Heap} {N : List Str} {qual : Str} {scope0 : Scope} {f : Addr} {cd : Value} {A : Around} {outer : List Env} {s0 : Shared} {H0 : Hp} {E : XK}
theorem funFrames_less {h B B' : Heap} (k : ∀ b, B.get? b = none -> B'.get? b = none) : ∀ {l : List Env}, h.FunFrames B l -> h.FunFrames B' l
  | [], _ => trivial
  | _ :: _, ⟨h1, ⟨L, o, a, b, c, d⟩, h3⟩ => ⟨h1, ⟨L, o, a, k L b, c, d⟩, funFrames_less k h3⟩
theorem funFrames_of {h h' B : Heap} : ∀ {l : List Env}, (∀ b ∈ frs l, ∃ o, h'.get? b = some o /\ ∀ vs, o.data ≠ .fields vs) -> h.FunFrames B l -> h'.FunFrames B l
  | [], _, _ => trivial
  | env :: r, k, ⟨h1, ⟨L, o, a, b, c, d⟩, h3⟩ => by
    have e : frs (env :: r) = L :: frs r := by
      show (env :: r).filterMap (·.frame) = _
      rw [List.filterMap_cons, a]
      rfl
    obtain ⟨o', z1, z2⟩ := k L (by rw [e]; exact List.mem_cons_self)
    exact ⟨h1, ⟨L, o', a, b, z1, z2⟩, funFrames_of (fun b hb => k b (by rw [e]; exact List.mem_cons_of_mem _ hb)) h3⟩
theorem comp_err {scope : Scope} {N' : List Str} {fp : List Addr} {pins pins' : List (Addr × Obj)} {σ σ' : St} {H2 H1 : Hp} {s2 s1 s' : Shared} {C : Addr} {e : Value} {E2 : Value -> Shared -> Prop}
    (I : Inv (cxOf (CXq P w) P w K mg base N qual scope0 f cd A outer s0 H0 E) pins σ H2 s2) (hfp : ∀ b ∈ fp, FpOk (cxOf (CXq P w) P w K mg base N qual scope0 f cd A outer s0 H0 E) pins H2 b) (hC : s2.heap.objs.size <= C)
    (z1 : Inv (cxComp (cxOf (CXq P w) P w K mg base N qual scope0 f cd A outer s0 H0 E) scope N' fp C s2 H2) pins' σ' H1 s1) (z2 : CXq P w (envOfC qual scope0 s0.heap.objs.size f cd :: outer) H1 s1 E e s') :
    wpAny (model P w) (A.deeper (envOfC qual scope0 s0.heap.objs.size f cd)) (do noteFrame e (compEnvC scope (clOf (envOfC qual scope0 s0.heap.objs.size f cd) scope.names []) C (envOfC qual scope0 s0.heap.objs.size f cd)); theTreesLotGoes e)
      (fun _ s'' => ∃ m, s''.heap.Ns C m /\ ∀ h', Heap.SameBut C s''.heap h' -> ∀ cenv : Env, cenv.locals = C -> wpAny (model P w) (A.deeper (envOfC qual scope0 s0.heap.objs.size f cd)) (PySem.passOn "comprehension.variables-let-go" e cenv : Sem Value) (fun _ _ => False)
        (cxOf (CXq P w) P w K mg base N qual scope0 f cd A outer s0 H0 E).xe { s'' with heap := h' }) E2 s' := by
  have J1 : Inv (cxOf (CXq P w) P w K mg base N qual scope0 f cd A outer s0 H0 E) pins σ H1 s1 := I.call' (ch := fp) z1.os z1.base z1.hok z1.bare fun b hb => let ⟨_, f1, f2, f3, f4, f5⟩ := hfp b hb; ⟨f3, f1, f4, f5⟩
  obtain ⟨f0, f1, ff2, f3, f4, f5⟩ := I.fpOk (H' := H1) hC (by have := z1.free; exact this)
  have Jc : Inv (cxOf (CXq P w) P w K mg base N qual scope0 f cd A outer s0 H0 E) pins σ H1 { s1 with heap := PySem.W.hideAll s1.heap [C] } := J1.turned (t' := s1.toks) (it := C) (fun b o hb z => PySem.W.hideAll_get _ z (by simpa using hb)) f0 f1 f3 f4 f5
  obtain ⟨ea, Cx, a0, B, H', od, rfl, os, bare, un, hok, fly, kB, di, q⟩ := z2
  have hfr : (A.deeper (envOfC qual scope0 s0.heap.objs.size f cd)).frames = some (envOfC qual scope0 s0.heap.objs.size f cd :: outer) := I.ok.frames
  have nC : C ∉ frs (envOfC qual scope0 s0.heap.objs.size f cd :: outer) := fun hm => by
    obtain ⟨_, o, z, _⟩ := (show s2.heap.FunFrames base (envOfC qual scope0 s0.heap.objs.size f cd :: outer) from I.stack).mem hm
    exact Nat.lt_irrefl _ (Nat.lt_of_lt_of_le (Heap.lt_size z) hC)
  rw [noteFrame_alike (e := .ref ea) (env := envOfC qual scope0 s0.heap.objs.size f cd) (env' := compEnvC scope (clOf (envOfC qual scope0 s0.heap.objs.size f cd) scope.names []) C (envOfC qual scope0 s0.heap.objs.size f cd)) rfl]
  refine wpAny_bind (looks_onD hfr rfl fly fun h4 held up4 ds4 => wpAny_theTreesLotGoes ?_)
  obtain ⟨st4, hen, fr4, tr4⟩ := held
  obtain ⟨m, hn, _⟩ := z1.loc
  obtain ⟨oC, esC, epC, hoC, rC⟩ := id hn
  have hoC1 : s1.heap.get? C = some oC := hoC
  have sC : s'.heap.get? C = some oC := un.keep C oC hoC1 f0 nC (by simp)
  have BC : B.get? C = some oC := kB C oC sC (.inl ⟨oC, hoC1⟩) nC
  refine ⟨m, ⟨oC, esC, epC, st4 C oC BC, rC⟩, fun h5 sb cenv hcl => ?_⟩
  obtain ⟨oe, vs, T, oT, ts, he, hcls, hd, h1, hnT, hTe, hT, hdT, h3⟩ := tr4
  have eC : ea ≠ C := fun z => by rw [z, BC] at hen; cases hen
  have TC : T ≠ C := fun z => by rw [z, BC] at hnT; cases hnT
  have he5 : h5.get? ea = some oe := sb.extBut _ _ eC he
  have hT5 : h5.get? T = some oT := sb.extBut _ _ TC hT
  have hsz3 : 3 < ts.size := (Array.getElem?_eq_some_iff.mp h3).1
  unfold PySem.passOn setFlight
  refine wpAny_bind (wpAny_field he5 hd h1 ?_)
  rw [if_neg (show ¬ ((Value.ref T == Value.none) = true) from by simp)]
  refine wpAny_bind (wpAny_bind (wpAny_field he5 hd h1 ?_))
  rw [if_pos (show (Value.ref T != Value.none) = true from by simp)]
  refine wpAny_setField hT5 hdT hsz3 (wpAny_throw ?_)
  generalize (cenv.frame.elim Value.none fun f => rawInt f) = fl
  have other : ∀ b, b ≠ T -> (h5.update T (Obj.mapFields (·.setIfInBounds 3 fl))).get? b = h5.get? b := fun b hb => Heap.get?_update_other _ _ (Ne.symm hb)
  have noRec : ∀ b o, h5.get? b = some o -> (∀ vs, o.data ≠ .fields vs) -> b ≠ T := fun b o hb hnf q => by
    rw [q, hT5] at hb; injection hb with hb; subst hb; exact hnf ts hdT
  have less : ∀ b, B.get? b = none -> (PySem.W.hideAll B [C]).get? b = none := fun b z => by
    cases z2 : (PySem.W.hideAll B [C]).get? b with
    | none => rfl
    | some o => have := PySem.W.of_hideAll _ z2; rw [z] at this; cases this
  have st6 : (PySem.W.hideAll B [C]).StaysIn (h5.update T (Obj.mapFields (·.setIfInBounds 3 fl))) := fun b o z => by
    have zb := PySem.W.of_hideAll _ z
    have bC : b ≠ C := fun q => by rw [q, PySem.W.hideAll_none _ List.mem_cons_self] at z; cases z
    rw [other b (fun q => by rw [q, hnT] at zb; cases zb)]
    exact sb.extBut _ _ bC (st4 b o zb)
  have inB : ∀ b o, b ≠ C -> s'.heap.get? b = some o -> ((∃ q, s1.heap.get? b = some q) \/ ∃ q, H' b = some q) -> b ∉ frs (envOfC qual scope0 s0.heap.objs.size f cd :: outer) -> (PySem.W.hideAll B [C]).get? b = some o := fun b o hb z hh hfr => PySem.W.hideAll_get _ (kB b o z hh hfr) (by simpa using hb)
  have HC : H' C = none := un.free C oC hoC1 f0 (by simp)
  have trB : ∀ b o v, H' b = some v -> s'.heap.get? b = some o -> (PySem.W.hideAll B [C]).get? b = some o := fun b o v hv z => by
    refine inB b o (fun q => by rw [q, HC] at hv; cases hv) z (.inr ⟨v, hv⟩) fun hm => ?_
    obtain ⟨_, o1, y1, _⟩ := (show s1.heap.FunFrames base (envOfC qual scope0 s0.heap.objs.size f cd :: outer) from J1.stack).mem hm
    have := un.free b o1 y1 (J1.stkFree b hm) (by simp)
    rw [hv] at this
    cases this
  have frn : ∀ b, b ∈ frs (envOfC qual scope0 s0.heap.objs.size f cd :: outer) -> b ≠ C := fun b hb q => nC (q ▸ hb)
  have sl6 : ∀ b o, b ∈ frs (envOfC qual scope0 s0.heap.objs.size f cd :: outer) -> s'.heap.get? b = some o -> ∃ sl, (h5.update T (Obj.mapFields (·.setIfInBounds 3 fl))).get? b = some { o with slots := sl } := fun b o hb z => by
    have nf := frames_nf fly.2.2.1 hb z
    obtain ⟨sl, z4⟩ := up4 b o z nf
    have z5 := sb.extBut _ _ (frn b hb) z4
    exact ⟨sl, by rw [other b (noRec b _ z5 nf)]; exact z5⟩
  have fr6 : (h5.update T (Obj.mapFields (·.setIfInBounds 3 fl))).FunFrames (PySem.W.hideAll B [C]) (envOfC qual scope0 s0.heap.objs.size f cd :: outer) := by
    refine funFrames_less less (funFrames_of (fun b hb => ?_) fly.2.2.1)
    obtain ⟨_, o, z, nf⟩ := fly.2.2.1.mem hb
    obtain ⟨sl, z6⟩ := sl6 b o hb z
    exact ⟨_, z6, nf⟩
  have scs : ∀ b o, (PySem.W.hideAll s1.heap [C]).get? b = some o -> b ≠ C /\ s1.heap.get? b = some o := fun b o z => ⟨fun q => (by rw [q, PySem.W.hideAll_none _ List.mem_cons_self] at z; cases z), PySem.W.of_hideAll _ z⟩
  have un6 : Un (frs (envOfC qual scope0 s0.heap.objs.size f cd :: outer)) [] H1 H' (PySem.W.hideAll s1.heap [C]) (h5.update T (Obj.mapFields (·.setIfInBounds 3 fl))) := by
    refine ⟨fun b o z n hb hx => ?_, fun b o z n hb hx => ?_, fun b o z n hx => un.free b o (scs b o z).2 n hx, fun b o z hx => ?_, un.tups, un.frzs, un.tbls⟩
    · obtain ⟨bC, y⟩ := scs b o z
      exact st6 b o (inB b o bC (un.keep b o y n hb hx) (.inl ⟨o, y⟩) hb)
    · obtain ⟨bC, y⟩ := scs b o z
      obtain ⟨sl, y2⟩ := un.slot b o y n hb hx
      obtain ⟨sl', y3⟩ := sl6 b _ hb y2
      exact ⟨sl', y3⟩
    · obtain ⟨bC, y⟩ := scs b o z
      obtain ⟨o', y2⟩ := un.there b o y hx
      by_cases hb : b ∈ frs (envOfC qual scope0 s0.heap.objs.size f cd :: outer)
      · obtain ⟨sl', y3⟩ := sl6 b _ hb y2
        exact ⟨_, y3⟩
      · exact ⟨o', st6 b o' (inB b o' bC y2 (.inl ⟨o, y⟩) hb)⟩
  have hok6 : HOk P w H' (h5.update T (Obj.mapFields (·.setIfInBounds 3 fl))) := hok.stays fun b u v hv z => st6 b u (trB b u v hv z)
  have he6 : (h5.update T (Obj.mapFields (·.setIfInBounds 3 fl))).get? ea = some oe := (other ea (Ne.symm hTe)).trans he5
  have tr6 : (h5.update T (Obj.mapFields (·.setIfInBounds 3 fl))).TracedAtW (PySem.W.hideAll B [C]) ea (.ref Cx) a0 fl :=
    ⟨oe, vs, T, _, _, he6, hcls, hd, h1, less T hnT, hTe, Heap.get?_update_self _ hT5 (Obj.isFreed_of_fields (Obj.data_mapFields hdT _)), Obj.data_mapFields hdT _, by simp [hsz3]⟩
  show wpAny (model P w) (A.deeper (envOfC qual scope0 s0.heap.objs.size f cd)) (leaving (envOfC qual scope0 s0.heap.objs.size f cd) (.ref ea)) _ _ _
  have lv := leave_any (M := model P w) (E := fun _ _ => False) (s := { s' with heap := h5.update T (Obj.mapFields (·.setIfInBounds 3 fl)) }) (Q := fun _ s3 => ∃ h7, s3 = { s' with heap := h7 } /\ Heap.FlyingW (PySem.W.hideAll B [C]) outer ea (.ref Cx) a0 h7 /\ (h5.update T (Obj.mapFields (·.setIfInBounds 3 fl))).UpToSlots h7) hfr fr6 rfl tr6 st6 (less ea hen) fun h7 a b => ⟨h7, rfl, a, b⟩
  refine wpAny_mono (wpAny_samed (E' := fun _ _ => False) dk_leaving lv) (fun _ s3 ⟨⟨h7, es, fly7, up7⟩, ds7⟩ => ?_) fun _ _ z => z.elim
  subst es
  refine asm_on (s' := { s' with heap := h5.update T (Obj.mapFields (·.setIfInBounds 3 fl)) }) Jc os bare un6 hok6 fr6 (fun b o z hh hb => ?_) fly7 up7 ?_ q
  · have : ∃ u, (PySem.W.hideAll B [C]).get? b = some u := by
      rcases hh with ⟨q1, y⟩ | ⟨v, y⟩
      · obtain ⟨bC, y1⟩ := scs b q1 y
        obtain ⟨o', y2⟩ := un.there b q1 y1 (by simp)
        exact ⟨o', inB b o' bC y2 (.inl ⟨q1, y1⟩) hb⟩
      · obtain ⟨u, y2⟩ := (hok b v y).there
        exact ⟨u, trB b u v y y2⟩
    obtain ⟨u, hu⟩ := this
    have := st6 b u hu
    rw [z] at this
    cases this
    exact hu
  · obtain ⟨o, y1, y2, y3⟩ := di
    obtain ⟨o7, y7, _⟩ := fly7.there
    exact ⟨o7, y7, fun dx ex => (ds7.at he6 y7).1.trans ((ds4.at y1 he).1.trans (y2 dx ex)), (ds7.at he6 y7).2.trans ((ds4.at y1 he).2.trans y3)⟩
variable {scope : Scope} {N' : List Str} {fr : List (Option Nat)} {elt tg iter : Expr} {ifs : List Expr} {g : TG} {tt : TT} {te : TE} {pos : Pos}
theorem ps_setCompX {wi : TI} {i : Nat} {y : Str} {py spos : Pos} (hN : N.Nodup) (hi' : N[i]? = some y) (hy : Loc (cxOf (CXq P w) P w K mg base N qual scope0 f cd A outer s0 H0 E).env.scope y) (c : CompOk (cxOf (CXq P w) P w K mg base N qual scope0 f cd A outer s0 H0 E) scope N' fr) (hi : PI (cxOf (CXq P w) P w K mg base N qual scope0 f cd A outer s0 H0 E) tg iter wi) (hg : ∀ fp C s H, PG (cxCompX (cxOf (CXq P w) P w K mg base N qual scope0 f cd A outer s0 H0 E) scope N' fp C s H E) tg g) (ht : ∀ fp C s H, PIfs (cxCompX (cxOf (CXq P w) P w K mg base N qual scope0 f cd A outer s0 H0 E) scope N' fp C s H E) ifs tt)
    (he : ∀ fp C s H, PE (cxCompX (cxOf (CXq P w) P w K mg base N qual scope0 f cd A outer s0 H0 E) scope N' fp C s H E) elt te) (hs : ∀ x, foldedSetIterable iter (cxOf (CXq P w) P w K mg base N qual scope0 f cd A outer s0 H0 E).env x = pure x := by intro _; rfl)
    (hsw : swapsWith (.ListComp elt [⟨tg, iter, ifs, 0⟩] scope pos) (some (.Name y py)) spos.line (cxOf (CXq P w) P w K mg base N qual scope0 f cd A outer s0 H0 E).env = pure true := by rfl) (hf : (cxOf (CXq P w) P w K mg base N qual scope0 f cd A outer s0 H0 E).fn y = true \/ (cxOf (CXq P w) P w K mg base N qual scope0 f cd A outer s0 H0 E).env.scope.names.lookup y = some .local := by first | exact .inl rfl | exact .inr rfl | assumption) :
    PS (cxOf (CXq P w) P w K mg base N qual scope0 f cd A outer s0 H0 E) (.Assign [.Name y py] (.ListComp elt [⟨tg, iter, ifs, 0⟩] scope pos) spos) (tSetComp i wi fr g tt te) := by
  intro pins s σ H D I h
  rw [exec_Assign_Name_used _ _ _ _ hsw]
  refine wpAny_bind (wpAny_standAt (wpAny_bind ?_))
  show wpAny _ (cxOf (CXq P w) P w K mg base N qual scope0 f cd A outer s0 H0 E).A (do let _ <- comprehension (.ListComp elt [⟨tg, iter, ifs, 0⟩] scope pos) scope (cxOf (CXq P w) P w K mg base N qual scope0 f cd A outer s0 H0 E).env _ (newList []) false (eval iter (cxOf (CXq P w) P w K mg base N qual scope0 f cd A outer s0 H0 E).env) (some (assign (.Name y py) (cxOf (CXq P w) P w K mg base N qual scope0 f cd A outer s0 H0 E).env))) _ _ s
  refine wpAny_bind (thn (wpAny_comprehension_free (use := some (assign (.Name y py) (cxOf (CXq P w) P w K mg base N qual scope0 f cd A outer s0 H0 E).env)) (Q := fun _ s' => SP (cxOf (CXq P w) P w K mg base N qual scope0 f cd A outer s0 H0 E) pins D .next s') rfl hs (closure_is (c.has I.ok)) c.kind c.names
    (thn (hi pins s σ H _ I h) fun v s1 h1 => thn h1 fun itv s2 h2 => ?_)) fun _ s' hq => wpAny_pure (wpAny_pure hq))
  obtain ⟨it, fp, tn, J, H2, e, I2, T, st2, f2, W, hW, h0⟩ := h2
  subst e
  refine comp_blockX (EX := E) c rfl I2 T st2 f2 hg ht he hW h0 (fun D C pins' σ' H1 s1 e s' hD hC hDC z1 z2 => ?_) ?_
  · exact comp_err I2 f2 hC z1 z2
  rintro B C ys H' s' J3 ⟨m, hm⟩ ⟨f0, f1, _, f3, f4, f5⟩ nD fi
  show wpAny _ (cxOf (CXq P w) P w K mg base N qual scope0 f cd A outer s0 H0 E).A (assign (.Name y py) (cxOf (CXq P w) P w K mg base N qual scope0 f cd A outer s0 H0 E).env (.ref B)) _ _ s'
  refine wpAny_assign_Name (store_ok2 J3 hN hi' hy (show RelV (.ref B) (.ref B) from rfl) (fun s4 J4 ⟨a, sb, ha⟩ => ?_) hf)
  have nCa : C ≠ a := by
    rcases ha with z | z
    · rw [z]; exact f1
    · exact fun q => f4 y a z q.symm
  exact ⟨m, hm.sameBut sb nCa, fun h'' sb2 => ⟨_, _, J4.turned (t' := s4.toks) (it := C) (fun b o hb e => sb2.extBut b o hb e) f0 f1 f3 f4 f5, fi B nD⟩⟩
end
end L2
namespace L2
open PySem PySem.Spec PyProof.Rows PySem.Builtin PySem.Builtin.Str
section
variable {X : Cx}
end
end L2
namespace L2
open PySem PySem.Spec PyProof.Rows
section
variable {X : Cx}
end
section
variable {X : Cx} {pins : List (Addr × Obj)} {σ : St} {H : Hp} {s : Shared} {d : Addr} {kvs : TTab}
end
section
variable {X : Cx} {o : Expr} {to : TE} {apos cpos : Pos}
end
end L2
namespace L2
open PySem PySem.Spec PyProof.Rows PySem.W
section
variable {P : Program} {w : World} {K : PySem.W.Frag} {mg : Str -> Option Value} {base : Heap} {k : Nat} {x : Str} {ps : List Str} {sp : Sp}
end
section
variable {X : Cx}
def rIsPs (K : PySem.W.Frag) : List V -> Hp -> VK -> Prop := fun xs H Q => ∃ (a C p : Addr) (od : Option Addr) (cs : List V) (b : Bool), xs = [.ref a, .ref p] /\ SqT K H p cs /\ H a = some (excP a C od) /\ ExcK K C /\ (∀ us, Vals cs us -> PySem.W.kitAny K (.ref C) us = some b) /\ Q (.bl b) H
theorem call_isPs : CallR X (.builtin "isinstance") (rIsPs X.K) := by
  intro pins s σ H xs us Q I r h
  obtain ⟨a, C, p, od, cs, b, rfl, hp, ha, Z, e, q⟩ := h
  obtain ⟨v1, v2, rfl, r1, r2⟩ := Vals.two r
  cases (show v1 = Value.ref a from r1)
  cases (show v2 = Value.ref p from r2)
  obtain ⟨⟨ob, _, hx1, hx2, _⟩, _⟩ := I.hok a _ ha
  obtain ⟨its, rv, ⟨o, ho, hc, n, hd⟩, _⟩ := I.tuple hp
  obtain ⟨oc, od', dt, sl⟩ := o
  have e1 : oc = .type "tuple" := hc
  have e2 : dt = .seq its.toArray n := hd
  subst e1 e2
  exact PySem.W.kia_tup (kitx_exc Z) I.kIn ⟨ob, hx1, hx2⟩ ho (e its rv) (by intro z; cases z) fun tk => ⟨.bl b, H, I.tok _, rfl, q⟩
end
end L2
namespace L2
open PySem PySem.Spec PyProof.Rows
section
variable {X : Cx}
end
end L2
namespace L2
open PySem PySem.Spec PyProof.Rows PySem.W
section
variable {X : Cx}
end
end L2
namespace L2
open PySem PySem.Spec PyProof.Rows
section
variable {prog : Program} {w : World} {A : Around} {E : Value -> Shared -> Prop} {s : Shared} {a : Addr} {led : Bool} {ns : List Int}
end
--T3
section
variable {prog : Program} {w : World} {A : Around} {R : Result -> Shared -> Prop} {I : Addr} {fp wr : List Addr} {G : Array GenState -> Array GenState -> Prop} {n : Nat} {P : Nat -> Value -> Prop} {St : Nat -> Shared -> Prop}
end
section
variable {prog : Program} {w : World} {A : Around} {E : Value -> Shared -> Prop} {s : Shared}
end
section
variable {prog : Program} {w : World} {A : Around} {E : Value -> Shared -> Prop} {s : Shared} {a : Addr}
end
section
variable {X : Cx}
end
end L2
namespace L2
open PySem PySem.Spec PyProof.Rows PySem.W
section
variable {P : Program} {w : World} {K : PySem.W.Frag} {mg : Str -> Option Value} {base : Heap} {k : Nat} {x : Str} {ps : List Str} {sp : Sp}
end
end L2
namespace L2
open PySem PySem.Spec PyProof.Rows
abbrev KTab := List (Key × V)
section
variable {X : Cx} {pins : List (Addr × Obj)} {σ : St} {H : Hp} {s : Shared} {d : Addr} {kvs : KTab}
end
section
variable {X : Cx} {o : Expr} {to : TE} {apos cpos : Pos}
end
end L2
namespace L2
open PySem PySem.W PyProof.Rows
section
variable {prog : Program} {w : World} {A : Around} {E : Value -> Shared -> Prop} {s : Shared}
end
section
variable {X : Cx}
end
end L2
namespace L2
open PySem PySem.W PySem.Spec PyProof.Rows
section
variable {X : Cx}
end
section
variable {prog : Program} {w : World} {A : Around} {E : Value -> Shared -> Prop} {s : Shared}
end
end L2
namespace L2
open PySem PySem.W PySem.Spec PyProof.Rows
section
variable {X : Cx} {pos : Pos} {k v : Expr} {tk tv : TE}
end
section
variable {prog : Program} {w : World} {A : Around} {E : Value -> Shared -> Prop} {s : Shared}
end
section
variable {X : Cx}
end
end L2
namespace L2
open PySem PySem.Spec PyProof.Rows
section
variable {X : Cx} {st : Stmt} {rest : List Stmt} {t u : TS}
end
end L2
namespace L2
open PySem PySem.Spec PyProof.Rows PySem.W
section
variable {prog : Program} {w : World} {A : Around} {E : Value -> Shared -> Prop} {s : Shared}
end
section
variable {X : Cx} {scope : Scope} {N' : List Str} {fr : List (Option Nat)} {pins : List (Addr × Obj)} {σ : St} {H : Hp} {s : Shared} {fp : List Addr} {it : Addr} {tn : Nat -> Heap -> Prop} {J : It}
  {elt tg iter : Expr} {ifs : List Expr} {g : TG} {tt : TT} {te : TE} {pos : Pos} {fin : List V -> Hp -> Prop} {W : Nat -> Nat -> List V -> St -> Hp -> Prop} {RR : Value -> Addr -> Result -> Shared -> Prop} {E : Value -> Shared -> Prop}
end
section
variable {X : Cx} {tg : Expr}
end
section
variable {X : Cx}
end
end L2
namespace L2
open PySem PySem.Spec PyProof.Rows PySem.W
def NoT (K : Frag) (H : Hp) (x : V) : Prop := x = .non \/ ∃ b ys, x = .ref b /\ SqT K H b ys
section
variable {X : Cx}
def isNU (u : Value) : Bool := match u with
  | .none => true
  | _ => false
theorem any_isNU {K : Frag} {H : Hp} : ∀ {xs : List V} {us : List Value}, Vals xs us -> (∀ x ∈ xs, NoT K H x) -> us.any isNU = decide (V.non ∈ xs)
  | _, _, .nil, _ => by simp
  | _, _, .cons r t, h => by
    rw [List.any_cons, any_isNU t fun x hx => h x (List.mem_cons_of_mem _ hx)]
    rcases h _ List.mem_cons_self with rfl | ⟨b, ys, rfl, _⟩
    · cases (show _ = Value.none from r)
      simp [isNU]
    · cases (show _ = Value.ref b from r)
      simp [isNU]
theorem mem_isNU {pins : List (Addr × Obj)} {σ : St} {H : Hp} {s : Shared} (I : Inv X pins σ H s) {A : Around} (hu : A.units < cLine) : ∀ {xs : List V} {us : List Value}, Vals xs us -> (∀ x ∈ xs, NoT X.K H x) -> ∀ u ∈ us, SeqAt.EqAt A s u .none (isNU u)
  | _, _, .nil, _ => fun u hu => by cases hu
  | _, _, .cons r t, h => fun u hm => by
    rcases List.mem_cons.mp hm with rfl | hm
    · rcases h _ List.mem_cons_self with rfl | ⟨b, ys, rfl, hb⟩
      · cases (show u = Value.none from r)
        exact SeqAt.EqAt.same _
      · cases (show u = Value.ref b from r)
        obtain ⟨its, rv, p, hz⟩ := I.tuple hb
        exact SeqAt.EqAt.tuple_none (show s.heap.IsTuple b its.toArray from p) hu
    · exact mem_isNU I hu t (fun x hx => h x (List.mem_cons_of_mem _ hx)) u hm
def rInN (K : Frag) : R2 := fun x y H Q => ∃ p xs, x = .non /\ y = .ref p /\ SqL K H p xs /\ (∀ x ∈ xs, NoT K H x) /\ Q (.bl (decide (V.non ∈ xs))) H
theorem op_inN (hu : X.A.units + 66 < cLine) : OpR X (compareOp .In) (rInN X.K) := by
  intro pins s σ H x y v u Q I rx ry h
  obtain ⟨p, xs, rfl, rfl, hp, hn, q⟩ := h
  cases (show v = Value.none from rx)
  cases (show u = Value.ref p from ry)
  obtain ⟨its, r, pl, hz⟩ := I.list hp
  refine SeqAt.in_listAt isNU pl.isList (fun w hw => mem_isNU I (by have := @in1_units X.A; lia) r hn w (by simpa using hw)) ⟨.bl _, H, I, rfl, ?_⟩
  rw [show its.toArray.any isNU = its.any isNU by simp, any_isNU r hn]
  exact q
def findV (z y : Str) : Int := match Builtin.Str.occurrences z y 0 z.length 1 with
  | i :: _ => (i : Int)
  | [] => -1
def rFind : V -> List V -> Hp -> VK -> Prop := fun x vs H Q => ∃ z y, x = .str z /\ vs = [.str y] /\ Q (.int (findV z y)) H
theorem mt_find : MtR X "str.find" rFind := by
  intro pins s σ H x xs v us Q I rx r h
  obtain ⟨z, y, rfl, rfl, q⟩ := h
  obtain ⟨t, rfl⟩ := rx
  obtain ⟨u, rfl, ru⟩ := Vals.one r
  obtain ⟨t', rfl⟩ := ru
  exact call_gives F.slot_str_find (typeIs_str _ _ _) F.entry_str_find (F.args_str_find_2 _ _) (gives_str_find z y t t') ⟨.int (findV z y), H, I.tok _, ⟨_, rfl⟩, q⟩
end
def splitP (z y : Str) : List Str := if z.length < y.length then [z] else Builtin.Str.partsBetween z (Builtin.Str.occurrences z y 0 z.length (z.length + 1)) y.length
theorem splitIs_P (z y : Str) : SplitIs z y (splitP z y) := by
  unfold SplitIs splitP
  by_cases h : z.length < y.length
  · exact .inl ⟨h, if_pos h⟩
  · exact .inr ⟨h, (if_neg h).symm⟩
theorem occ_le (s sub : Str) (hi limit : Nat) : ∀ (l : List Nat) (st : Array Nat × Nat), st.fst.size <= limit -> (forIn l st (StrLaws.occBody s sub hi limit) : Id (Array Nat × Nat)).run.fst.size <= limit
  | [], st, h => h
  | a :: l, st, h => by
    rw [List.forIn_cons]
    unfold StrLaws.occBody
    split
    · rename_i hc
      exact occ_le s sub hi limit l _ (by rw [Array.size_push]; exact hc.1.1.1)
    · exact occ_le s sub hi limit l _ h
theorem splitP_len (z y : Str) : (splitP z y).length <= z.length + 2 := by
  unfold splitP
  split
  · show 1 <= _
    lia
  · unfold Builtin.Str.partsBetween
    rw [List.length_map, List.length_zip, List.length_cons, List.length_map, List.length_append]
    have h := occ_le z y z.length (z.length + 1) (List.range' 0 (z.length + 1 - 0)) (#[], 0) (Nat.zero_le _)
    have e : (Builtin.Str.occurrences z y 0 z.length (z.length + 1)).length <= z.length + 1 := by
      rw [StrLaws.occ_eq, Array.length_toList]
      exact h
    show min _ (_ + 1) <= _
    lia
theorem splitP_ne (z y : Str) : splitP z y ≠ [] := by
  unfold splitP
  split
  · exact List.cons_ne_nil _ _
  · intro h
    have := congrArg List.length h
    unfold Builtin.Str.partsBetween at this
    rw [List.length_map, List.length_zip, List.length_cons, List.length_map, List.length_append] at this
    simp at this
theorem splitP_sub {z y p : Str} (h : p ∈ splitP z y) : p.length <= z.length /\ ∀ c ∈ p.cps.toList, c ∈ z.cps.toList := by
  unfold splitP at h
  split at h
  · rw [List.mem_singleton.mp h]
    exact ⟨Nat.le_refl _, fun _ z => z⟩
  · unfold Builtin.Str.partsBetween at h
    obtain ⟨⟨i, j⟩, _, rfl⟩ := List.mem_map.mp h
    show (z.cps.extract i j).size <= z.cps.size /\ ∀ c ∈ (z.cps.extract i j).toList, c ∈ z.cps.toList
    refine ⟨?_, fun c hc => ?_⟩
    · rw [Array.size_extract]
      lia
    · rw [Array.toList_extract] at hc
      exact List.mem_of_mem_drop (List.mem_of_mem_take hc)
end L2
namespace My
open PySem L2
def top (i : Nat) : Stmt := PySem.Challenge.pw_manycounts_k27_no_texts_of_polynomials.main.body.getD i (.Pass ⟨0, 0, 0, 0⟩)
abbrev sRPoly : Stmt := top 22
abbrev sRTerm : Stmt := top 23
abbrev sRTimes : Stmt := top 24
abbrev sRPower : Stmt := top 25
abbrev sRAbove : Stmt := top 26
abbrev sAt : Stmt := top 28
abbrev sNumber : Stmt := top 29
abbrev sTerm : Stmt := top 30
abbrev sSum : Stmt := top 31
abbrev sFactor : Stmt := top 32
abbrev sText : Stmt := top 33
abbrev sFigs : Stmt := top 34
abbrev sLPow : Stmt := top 35
abbrev sLTerm : Stmt := top 36
abbrev sLRead : Stmt := top 37
abbrev sOdd : Stmt := top 38
abbrev sBound : Stmt := top 39
abbrev sSpoilt : Stmt := top 40
abbrev sOnly : Stmt := top 41
abbrev sRefd : Stmt := top 42
abbrev sRight : Stmt := top 43
abbrev sLaw : Stmt := top 44
abbrev T3 := Int × Int × Int
def k3 (t : T3) : Int × Int := (t.1, t.2.1)
def coef (ts : List T3) (k : Int × Int) : Int := ((ts.filter fun t => decide (k3 t = k)).map (·.2.2)).sum
theorem coef_cons (t : T3) (ts : List T3) (k : Int × Int) : coef (t :: ts) k = (if k3 t = k then t.2.2 else 0) + coef ts k := by
  unfold coef
  by_cases h : k3 t = k
  · rw [List.filter_cons_of_pos (by simpa using h), if_pos h, List.map_cons, List.sum_cons]
  · rw [List.filter_cons_of_neg (by simpa using h), if_neg h, Int.zero_add]
theorem coef_app (a b : List T3) (k : Int × Int) : coef (a ++ b) k = coef a k + coef b k := by
  induction a with
  | nil => show coef b k = 0 + coef b k; lia
  | cons t a ih => rw [List.cons_append, coef_cons, coef_cons, ih]; lia
theorem coef_zero {ts : List T3} {k : Int × Int} (h : ∀ t ∈ ts, k3 t ≠ k) : coef ts k = 0 := by
  induction ts with
  | nil => rfl
  | cons t ts ih =>
    rw [coef_cons, if_neg (h t (List.mem_cons_self ..)), ih fun u hu => h u (List.mem_cons_of_mem _ hu)]
    lia
def keyLt (a b : T3) : Prop := a.1 < b.1 \/ (a.1 = b.1 /\ a.2.1 < b.2.1)
structure PolyIs (ts L : List T3) : Prop where
  up : L.Pairwise keyLt
  mem : ∀ t, t ∈ L ↔ t.2.2 ≠ 0 /\ t.2.2 = coef ts (k3 t)
def kk (k : Int × Int) : List Key := [.inl k.1, .inl k.2]
theorem kk_inj {a b : Int × Int} (h : kk a = kk b) : a = b := by
  unfold kk at h
  simp only [List.cons.injEq, Sum.inl.injEq, and_true] at h
  exact Prod.ext h.1 h.2
structure TabIs (ts : List T3) (kvs : TTab) : Prop where
  nd : (kvs.map (·.1)).Nodup
  val : ∀ p ∈ kvs, ∃ k, p = (kk k, V.int (coef ts k))
  has : ∀ t ∈ ts, kk (k3 t) ∈ kvs.map (·.1)
  len : kvs.length <= ts.length
theorem TabIs.nil : TabIs [] [] := ⟨by simp, (fun _ h => nomatch h), (fun _ h => nomatch h), Nat.le_refl _⟩
theorem valV_mem {kvs : TTab} {k : List Key} {v : V} (h : valV kvs k = some v) : (k, v) ∈ kvs := by
  unfold valV at h
  obtain ⟨p, hp, rfl⟩ := Option.map_eq_some_iff.mp h
  have h1 := List.mem_of_find?_eq_some hp
  have h2 := List.find?_some hp
  have : p.1 = k := by simpa using h2
  rw [<- this]
  exact h1
theorem valV_none {kvs : TTab} {k : List Key} (h : valV kvs k = none) : k ∉ kvs.map (·.1) := by
  unfold valV at h
  rw [Option.map_eq_none_iff] at h
  intro hm
  obtain ⟨p, hp, e⟩ := List.mem_map.mp hm
  have := List.find?_eq_none.mp h p hp
  exact this (by simpa using e)
theorem TabIs.at {ts : List T3} {kvs : TTab} (h : TabIs ts kvs) (k : Int × Int) : (valV kvs (kk k)).getD (.int 0) = .int (coef ts k) := by
  cases e : valV kvs (kk k) with
  | some v =>
    obtain ⟨k', e'⟩ := h.val _ (valV_mem e)
    injection e' with e1 e2
    rw [kk_inj e1, e2]
    rfl
  | none =>
    have := valV_none e
    rw [coef_zero fun t ht z => this (by rw [<- z]; exact h.has t ht)]
    rfl
theorem TabIs.put {ts : List T3} {kvs : TTab} (h : TabIs ts kvs) (t : T3) : TabIs (ts ++ [t]) (putK kvs (kk (k3 t)) (.int (coef ts (k3 t) + t.2.2))) := by
  have c1 : coef (ts ++ [t]) (k3 t) = coef ts (k3 t) + t.2.2 := by
    rw [coef_app, coef_cons, if_pos rfl]
    show _ + (_ + 0) = _
    lia
  have c2 : ∀ k, k3 t ≠ k -> coef (ts ++ [t]) k = coef ts k := fun k hk => by
    rw [coef_app, coef_cons, if_neg hk]
    show _ + (0 + 0) = _
    lia
  refine ⟨?_, ?_, ?_, ?_⟩
  · unfold putK
    split
    · rw [List.map_map]
      have : ((fun x : List Key × V => x.1) ∘ fun kv : List Key × V => if kv.1 = kk (k3 t) then (kv.1, V.int (coef ts (k3 t) + t.2.2)) else kv) = fun x => x.1 := by
        funext p
        show (if p.1 = kk (k3 t) then (p.1, _) else p).1 = p.1
        split <;> rfl
      rw [this]
      exact h.nd
    · rename_i hn
      rw [List.map_append, List.nodup_append]
      refine ⟨h.nd, by simp, fun a ha b hb => ?_⟩
      have : b = kk (k3 t) := by simpa using hb
      subst this
      intro e
      subst e
      apply hn
      obtain ⟨p, hp, e⟩ := List.mem_map.mp ha
      exact List.any_eq_true.mpr ⟨p, hp, by simpa using e⟩
  · intro p hp
    unfold putK at hp
    split at hp
    · obtain ⟨q, hq, rfl⟩ := List.mem_map.mp hp
      obtain ⟨k, e⟩ := h.val q hq
      by_cases c : q.1 = kk (k3 t)
      · rw [if_pos c]
        exact ⟨k3 t, by rw [c, c1]⟩
      · rw [if_neg c]
        refine ⟨k, ?_⟩
        rw [e, c2 k fun z => c (by rw [e, z])]
    · rename_i hn
      rcases List.mem_append.mp hp with hp | hp
      · obtain ⟨k, e⟩ := h.val p hp
        refine ⟨k, ?_⟩
        rw [e, c2 k fun z => hn (List.any_eq_true.mpr ⟨p, hp, by rw [e, z]; simp⟩)]
      · have : p = (kk (k3 t), V.int (coef ts (k3 t) + t.2.2)) := by simpa using hp
        exact ⟨k3 t, by rw [this, c1]⟩
  · have keep : ∀ x ∈ kvs.map (·.1), x ∈ (putK kvs (kk (k3 t)) (V.int (coef ts (k3 t) + t.2.2))).map (·.1) := by
      intro x hx
      unfold putK
      split
      · obtain ⟨p, hp, rfl⟩ := List.mem_map.mp hx
        refine List.mem_map.mpr ⟨_, List.mem_map.mpr ⟨p, hp, rfl⟩, ?_⟩
        show (if p.1 = kk (k3 t) then (p.1, _) else p).1 = p.1
        split <;> rfl
      · rw [List.map_append]
        exact List.mem_append_left _ hx
    intro u hu
    rcases List.mem_append.mp hu with hu | hu
    · exact keep _ (h.has u hu)
    · have : u = t := by simpa using hu
      subst this
      unfold putK
      split
      · rename_i hy
        obtain ⟨p, hp, e⟩ := List.any_eq_true.mp hy
        have e' : p.1 = kk (k3 u) := by simpa using e
        refine List.mem_map.mpr ⟨_, List.mem_map.mpr ⟨p, hp, rfl⟩, ?_⟩
        show (if p.1 = kk (k3 u) then (p.1, _) else p).1 = _
        rw [if_pos e', e']
      · rw [List.map_append]
        exact List.mem_append_right _ (by simp)
  · have := length_putK kvs (kk (k3 t)) (V.int (coef ts (k3 t) + t.2.2))
    have := h.len
    rw [List.length_append]
    show _ <= _ + 1
    lia
def selP (p : List Key × V) : Option T3 := match p with
  | ([.inl i, .inl j], .int n) => if n = 0 then none else some (i, j, n)
  | _ => none
def sel (kvs : TTab) : List T3 := kvs.filterMap selP
theorem selP_kk (k : Int × Int) (n : Int) : selP (kk k, .int n) = if n = 0 then none else some (k.1, k.2, n) := rfl
theorem sel_mem {ts : List T3} {kvs : TTab} (h : TabIs ts kvs) (t : T3) : t ∈ sel kvs ↔ t.2.2 ≠ 0 /\ t.2.2 = coef ts (k3 t) := by
  unfold sel
  rw [List.mem_filterMap]
  constructor
  · rintro ⟨p, hp, e⟩
    obtain ⟨k, rfl⟩ := h.val p hp
    rw [selP_kk] at e
    by_cases c : coef ts k = 0
    · rw [if_pos c] at e; cases e
    · rw [if_neg c] at e
      cases e
      exact ⟨c, rfl⟩
  · rintro ⟨c, e⟩
    have : ∃ u ∈ ts, k3 u = k3 t := by
      refine Classical.byContradiction fun hn => c ?_
      rw [e]
      exact coef_zero fun u hu z => hn ⟨u, hu, z⟩
    obtain ⟨u, hu, eu⟩ := this
    obtain ⟨p, hp, e2⟩ := List.mem_map.mp (h.has u hu)
    obtain ⟨k, rfl⟩ := h.val p hp
    have ek : k = k3 t := by rw [<- eu]; exact kk_inj e2
    refine ⟨_, hp, ?_⟩
    rw [selP_kk, ek, <- e, if_neg c]
    rfl
theorem sel_keys {ts : List T3} {kvs : TTab} (h : TabIs ts kvs) : ((sel kvs).map k3).Nodup := by
  have hv := h.val
  have hn := h.nd
  clear h
  induction kvs with
  | nil => simp [sel]
  | cons p kvs ih =>
    rw [List.map_cons, List.nodup_cons] at hn
    have ih' := ih (fun q hq => hv q (List.mem_cons_of_mem _ hq)) hn.2
    obtain ⟨k, rfl⟩ := hv p (List.mem_cons_self ..)
    unfold sel at ih' ⊢
    by_cases c : coef ts k = 0
    · rw [List.filterMap_cons_none (by rw [selP_kk, if_pos c])]
      exact ih'
    · rw [List.filterMap_cons_some (by rw [selP_kk, if_neg c]), List.map_cons, List.nodup_cons]
      refine ⟨fun hm => hn.1 ?_, ih'⟩
      obtain ⟨t, ht, e⟩ := List.mem_map.mp hm
      obtain ⟨q, hq, eq⟩ := List.mem_filterMap.mp ht
      obtain ⟨k', rfl⟩ := hv q (List.mem_cons_of_mem _ hq)
      rw [selP_kk] at eq
      by_cases c' : coef ts k' = 0
      · rw [if_pos c'] at eq; cases eq
      · rw [if_neg c'] at eq
        cases eq
        have : k' = k := e
        subst this
        exact List.mem_map.mpr ⟨_, hq, rfl⟩
theorem sel_len {ts : List T3} {kvs : TTab} (h : TabIs ts kvs) : (sel kvs).length <= ts.length := Nat.le_trans (List.length_filterMap_le ..) h.len
def l3 (t : T3) : List Int := [t.1, t.2.1, t.2.2]
def u3 (l : List Int) : T3 := (l.getD 0 0, l.getD 1 0, l.getD 2 0)
def TermAt (H : Hp) (v : V) (t : T3) : Prop := ∃ a, v = .ref a /\ H a = some (.tup [.int t.1, .int t.2.1, .int t.2.2])
theorem TermAt.same {H H' : Hp} {v : V} {t : T3} (h : TermAt H v t) (e : Same H H') : TermAt H' v t := let ⟨a, h1, h2⟩ := h; ⟨a, h1, e _ _ h2⟩
theorem terms_same {H H' : Hp} {xs : List V} {ts : List T3} (h : Paired (TermAt H) xs ts) (e : Same H H') : Paired (TermAt H') xs ts := L2.Paired.mapP h fun _ _ q => q.same e
theorem Same.put {H H2 : Hp} {p : Addr} {o : HO} (s : Same H H2) (h : H p = none) : Same H (upd H2 p o) := fun b u e => by rw [upd_ne (ne_of_none e h)]; exact s b u e
structure PolyAt (H : Hp) (v : V) (L : List T3) : Prop where
  ex : ∃ c rs, v = .ref c /\ H c = some (.tup rs) /\ Paired (TermAt H) rs L
theorem PolyAt.same {H H' : Hp} {v : V} {L : List T3} (h : PolyAt H v L) (e : Same H H') : PolyAt H' v L := by
  obtain ⟨c, rs, h1, h2, h3⟩ := h.ex
  exact ⟨c, rs, h1, e _ _ h2, terms_same h3 e⟩
theorem same_term {K : W.Frag} {H : Hp} {a b : Addr} {t : T3} (h1 : H a = some (.tup [.int t.1, .int t.2.1, .int t.2.2])) (h2 : H b = some (.tup [.int t.1, .int t.2.1, .int t.2.2])) : SameD K H 1 (.ref a) (.ref b) := by
  refine .tup (SqT.of h1) (SqT.of h2) rfl fun i u v e1 e2 => ?_
  rw [e1] at e2
  cases e2
  match i with
  | 0 => simp at e1; rw [<- e1]; exact .flat rfl
  | 1 => simp at e1; rw [<- e1]; exact .flat rfl
  | 2 => simp at e1; rw [<- e1]; exact .flat rfl
  | j + 3 => simp at e1
theorem same_poly {K : W.Frag} {H : Hp} {v u : V} {L : List T3} (h1 : PolyAt H v L) (h2 : PolyAt H u L) {Q : VK} {out : Bool} (q : Q (.bl out) H) : rSame K out v u H Q := by
  obtain ⟨c, rs, rfl, c1, t1⟩ := h1.ex
  obtain ⟨c', rs', rfl, c2, t2⟩ := h2.ex
  have l1 := Paired.length t1
  have l2 := Paired.length t2
  refine ⟨c, c', _, _, 1, rfl, rfl, .inl ⟨SqT.of c1, SqT.of c2⟩, by omega, by decide, fun j x y f1 f2 => ?_, q⟩
  obtain ⟨p1, g1, a1, rfl, b1⟩ := Paired.at t1 f1
  obtain ⟨p2, g2, a2, rfl, b2⟩ := Paired.at t2 f2
  rw [g1] at g2
  cases g2
  exact same_term b1 b2
structure TxP (mg : Str -> Option Value) : Prop where
  isi : mg "isinstance" = none
  int : mg "int" = none
  bool : mg "bool" = none
  len : mg "len" = none
  tuple : mg "tuple" = none
  list : mg "list" = none
  range : mg "range" = none
  sorted : mg "sorted" = none
theorem boot_isi : bootBuiltins "isinstance" = some (.builtin "isinstance") := by first | rfl | decide +kernel
theorem boot_int' : bootBuiltins "int" = some (.type "int") := by first | rfl | decide +kernel
theorem boot_tuple' : bootBuiltins "tuple" = some (.type "tuple") := by first | rfl | decide +kernel
theorem boot_sorted' : bootBuiltins "sorted" = some (.builtin "sorted") := by first | rfl | decide +kernel
def TermK (K : W.Frag) (H : Hp) (v : V) (t : T3) : Prop := ∃ a, v = .ref a /\ SqT K H a [.int t.1, .int t.2.1, .int t.2.2]
theorem TermAt.K {K : W.Frag} {H : Hp} {v : V} {t : T3} (h : TermAt H v t) : TermK K H v t := let ⟨a, h1, h2⟩ := h; ⟨a, h1, SqT.of h2⟩
theorem termsK {K : W.Frag} {H : Hp} {xs : List V} {ts : List T3} (h : Paired (TermAt H) xs ts) : Paired (TermK K H) xs ts := L2.Paired.mapP h fun _ _ q => q.K
theorem natB {n : Nat} (h : n < 100000) : n < sizeLine := Nat.lt_of_lt_of_le h (by decide)
def spGath (K : W.Frag) : Sp := fun vs H Q _ => ∃ (k : Kd) (a : Addr) (rs : List V) (ts : List T3), vs = [.ref a] /\ SqK k K H a rs /\ Paired (TermK K H) rs ts /\ ts.length < 100000 /\
  ∀ v L H', Same H H' -> PolyIs ts L -> L.length <= ts.length -> PolyAt H' v L -> Q v H'
def sw (t : T3) : T3 := (t.2.1, t.1, t.2.2)
def keysP (p : List Key × V) : Option (Int × Int) := (selP p).map k3
def keysN (kvs : TTab) : List (Int × Int) := kvs.filterMap keysP
theorem keysN_eq (kvs : TTab) : keysN kvs = (sel kvs).map k3 := by
  unfold keysN sel keysP
  rw [List.map_filterMap]
theorem keys_take {kvs : TTab} {i : Nat} {p : List Key × V} (e : kvs[i]? = some p) : keysN (kvs.take (i + 1)) = keysN (kvs.take i) ++ ((selP p).map k3).toList := by
  unfold keysN
  rw [take_succ_of e, List.filterMap_append]
  congr 1
def l2k (k : Int × Int) : List Int := [k.1, k.2]
def u2 (l : List Int) : Int × Int := (l.getD 0 0, l.getD 1 0)
theorem le_key2 {a b : Int × Int} (h : LexLe (l2k a) (l2k b)) (ne : a ≠ b) : a.1 < b.1 \/ (a.1 = b.1 /\ a.2 < b.2) := by
  unfold LexLe l2k at h
  rw [HT.lexLt_cons] at h
  by_cases e : b.1 = a.1
  · rw [if_pos e, HT.lexLt_cons] at h
    by_cases e2 : b.2 = a.2
    · exact absurd (Prod.ext e.symm e2.symm) ne
    · rw [if_neg e2] at h
      have := of_decide_eq_false h
      exact .inr ⟨e.symm, by omega⟩
  · rw [if_neg e] at h
    have := of_decide_eq_false h
    exact .inl (by omega)
def pOf (ts : List T3) (k : Int × Int) : T3 := (k.1, k.2, coef ts k)
theorem keys_sorted {ts : List T3} {kvs : TTab} (h : TabIs ts kvs) {kss : List (List Int)} (hp : kss.Perm ((keysN kvs).map l2k)) (hs : kss.Pairwise LexLe) : ∃ M : List (Int × Int), kss = M.map l2k /\ (∀ k ∈ M, kk k ∈ kvs.map (·.1)) /\ PolyIs ts (M.map (pOf ts)) /\ M.length <= ts.length := by
  have e1 : kss.map u2 |>.map l2k |> (· = kss) := by
    rw [List.map_map]
    have : ∀ x ∈ kss, (l2k ∘ u2) x = x := fun x hx => by
      obtain ⟨t, _, rfl⟩ := List.mem_map.mp (hp.mem_iff.mp hx)
      rfl
    exact (List.map_congr_left this).trans (List.map_id _)
  have pm : (kss.map u2).Perm (keysN kvs) := by
    have := hp.map u2
    rw [List.map_map] at this
    have e2 : (keysN kvs).map (u2 ∘ l2k) = keysN kvs := (List.map_congr_left fun t _ => rfl).trans (List.map_id _)
    rw [e2] at this
    exact this
  have memk : ∀ k, k ∈ kss.map u2 ↔ coef ts k ≠ 0 := fun k => by
    rw [pm.mem_iff, keysN_eq, List.mem_map]
    constructor
    · rintro ⟨t, ht, rfl⟩
      obtain ⟨a, b⟩ := (sel_mem h t).mp ht
      rw [<- b]; exact a
    · intro c
      exact ⟨pOf ts k, (sel_mem h _).mpr ⟨c, rfl⟩, rfl⟩
  refine ⟨kss.map u2, e1.symm, fun k hk => ?_, ⟨?_, fun t => ?_⟩, ?_⟩
  · have : ∃ u ∈ ts, k3 u = k := by
      refine Classical.byContradiction fun hn => (memk k).mp hk ?_
      exact coef_zero fun u hu z => hn ⟨u, hu, z⟩
    obtain ⟨u, hu, eu⟩ := this
    rw [<- eu]
    exact h.has u hu
  · have nd : (kss.map u2).Nodup := pm.nodup_iff.mpr (by rw [keysN_eq]; exact sel_keys h)
    have s2 : (kss.map u2).Pairwise fun a b => LexLe (l2k a) (l2k b) := by
      rw [<- e1] at hs
      exact List.pairwise_map.mp hs
    exact List.pairwise_map.mpr ((s2.and nd).imp fun ⟨x, y⟩ => le_key2 x y)
  · constructor
    · intro ht
      obtain ⟨k, hk, rfl⟩ := List.mem_map.mp ht
      exact ⟨(memk k).mp hk, rfl⟩
    · rintro ⟨a, b⟩
      refine List.mem_map.mpr ⟨k3 t, (memk _).mpr (by rw [<- b]; exact a), ?_⟩
      unfold pOf
      rw [<- b]
      rfl
  · rw [pm.length_eq, keysN_eq, List.length_map]
    exact sel_len h
theorem tab_val {ts : List T3} {kvs : TTab} (h : TabIs ts kvs) {k : Int × Int} (hk : kk k ∈ kvs.map (·.1)) : valV kvs (kk k) = some (.int (coef ts k)) := by
  cases e : valV kvs (kk k) with
  | none => exact absurd hk (valV_none e)
  | some v =>
    have := h.at k
    rw [e] at this
    rw [show v = _ from this]
section
variable {P : Program} {w : World} {K : W.Frag} {mg : Str -> Option Value} {base : Heap}
theorem scSum : FnScope ["_law_terms", "_law_found", "_law_i", "_law_j", "_law_times", "_law_kept"] ["_law_terms"] (defScope sSum) := ⟨rfl, rfl, rfl, by decide +kernel, rfl, by decide +kernel, by decide +kernel⟩
theorem ndS : (["_law_one", "_law_found"] : List Str).Nodup := by decide +kernel
theorem d_sum (T : TxP mg) (S : Src K mg "_law_sum" sSum ["_law_terms"]) : Def P w K mg base 1 "_law_sum" ["_law_terms"] (spGath K) := by
  refine S.def scSum (fun vs H Q E h => ?_) (fun f cdv A outer s H vs Q E hr h => ?_)
  · obtain ⟨_, _, _, _, rfl, _⟩ := h; rfl
  · obtain ⟨k, a, rs, ts, rfl, hq, ht, h64, q⟩ := h
    have rl : rs.length = ts.length := Paired.length ht
    refine ⟨_, pss_cons (ps_set (i := 1) scSum.nd rfl (Or.inr rfl) pe_dnewT)
      (pss_cons (ps_for PassesOwn.never rfl (pi_seqK K k (pv 0)) (pg_tupK K 3 rfl (pgs_cons (pg_name (i := 2) scSum.nd rfl (Or.inl rfl)) (pgs_cons (pg_name (i := 3) scSum.nd rfl (Or.inl rfl)) (pgs_cons (pg_name (i := 4) scSum.nd rfl (Or.inl rfl)) pgs_nil))))
        (pss_one (ps_dput (hu_of hr) (pv 1) (pe_tup (pa_cons (pv 2) (pa_cons (pv 3) pa_nil))) (pe_op op_add (pe_dget2 (hu_of hr) (pv 1) (pe_tup (pa_cons (pv 2) (pa_cons (pv 3) pa_nil))) pe_int ⟨rfl, rfl, rfl, rfl⟩) (pv 4)) rfl)))
      (pss_cons (ps_setComp (i := 5) scSum.nd rfl (Or.inl rfl) (N' := ["_law_one", "_law_found"]) (fr := [none, some 1]) (compOk_of (by rfl)) rfl (pi_dkeys (pv 1))
        (fun _ _ _ _ => pg_name (i := 0) ndS rfl (Or.inl rfl) (Or.inr rfl)) (fun _ _ _ _ => pifs_one (pt_cmpR op_ne (pe_dget (hu_of hr) (pv 1) (pv 0) (fun _ _ => rfl)) pe_int (nomark _))) (fun _ _ _ _ => pv 0))
      (pss_one (ps_ret (pe_callTy (call_tuple_ofK K) rfl T.tuple boot_tuple' (pa_cons (pe_comp (N' := ["_law_one", "_law_found"]) (fr := [none, some 1]) (compOk_of (by rfl)) rfl (pi_seqK K .l (pe_callB call_sortedG (by rfl) T.sorted boot_sorted' (pa_cons (pv 5) pa_nil)))
        (fun _ _ _ _ => pg_name (i := 0) ndS rfl (Or.inl rfl) (Or.inr rfl)) (fun _ _ _ _ => pifs_nil)
        (fun _ _ _ _ => pe_tup (pa_cons (pe_ix (r := rIxT K) (ix_tupK K) (pv 0) pe_int (fun _ _ => rfl)) (pa_cons (pe_ix (r := rIxT K) (ix_tupK K) (pv 0) pe_int (fun _ _ => rfl)) (pa_cons (pe_dget (hu_of hr) (pv 1) (pv 0) (fun _ _ => rfl)) pa_nil))))) pa_nil)))))), ?_⟩
    intro d hd
    have s1 := Same.new (o := HO.dT []) hd
    have hd1 : (upd H d (.dT [])) d = some (.dT []) := upd_same
    generalize upd H d (.dT []) = H1 at s1 hd1 ⊢
    refine ⟨_, rfl, a, rfl, ⟨rs, s1.seqK hq⟩, for_seq (k := k) (K := K) (a := a) (xs := rs) (fun i σ H' => (∃ u v r t, σ = [some (.ref a), some (.ref d), u, v, r, t]) /\ Same H H' /\ ∃ kvs, H' d = some (.dT kvs) /\ TabIs (ts.take i) kvs)
      ⟨⟨_, _, _, _, rfl⟩, s1, [], hd1, TabIs.nil⟩ (fun i σ H' _ z => z.2.1.seqK hq) ?_ ?_⟩
    · rintro i x σ H2 hx ⟨⟨u, v, r, t0, rfl⟩, sm, kvs, hk, tab⟩
      obtain ⟨t, e1, b, rfl, hb⟩ := Paired.at ht hx
      refine ⟨b, _, rfl, sqT sm hb, rfl, _, _, rfl, _, _, rfl, _, _, rfl, rfl, ?_⟩
      have kl : kvs.length < 100000 := by
        have := tab.len
        rw [List.length_take] at this
        omega
      refine ⟨_, rfl, d, rfl, .inr ⟨_, .inl hk⟩, _, rfl, _, rfl, by show 2 <= sizeLine; decide, fun c hc => ?_⟩
      have s3 := Same.new (o := HO.tup [.int t.1, .int t.2.1]) hc
      have hc3 : (upd H2 c (.tup [.int t.1, .int t.2.1])) c = some (.tup ((kk (k3 t)).map kV)) := upd_same
      have hk3 := s3 _ _ hk
      have sm3 := sm.trans s3
      generalize upd H2 c (.tup [.int t.1, .int t.2.1]) = H3 at s3 hc3 hk3 sm3 ⊢
      refine ⟨_, DGet.t hk3 hc3, ?_⟩
      rw [tab.at]
      refine ⟨_, rfl, _, _, rfl, rfl, _, rfl, _, rfl, _, rfl, by show 2 <= sizeLine; decide, fun c2 hc2 => ?_⟩
      have s4 := Same.new (o := HO.tup [.int t.1, .int t.2.1]) hc2
      have hc4 : (upd H3 c2 (.tup [.int t.1, .int t.2.1])) c2 = some (.tup ((kk (k3 t)).map kV)) := upd_same
      have hk4 := s4 _ _ hk3
      have sm4 := sm3.trans s4
      generalize upd H3 c2 (.tup [.int t.1, .int t.2.1]) = H4 at s4 hc4 hk4 sm4 ⊢
      refine ⟨d, _, rfl, DPut.t hk4 hc4 (natB kl), ⟨_, _, _, _, rfl⟩, Same.put sm4 hd, _, upd_same, ?_⟩
      rw [take_succ_of e1]
      exact tab.put t
    · rintro σ H2 ⟨⟨u, v, r, t0, rfl⟩, sm, kvs, hk, tab⟩
      rw [rl, List.take_length] at tab
      have kl : kvs.length < 100000 := Nat.lt_of_le_of_lt tab.len h64
      refine ⟨_, rfl, d, kvs, rfl, hk, fun o => ?_⟩
      have hf : (upd H2 d (.frz o (.dT kvs))) d = some (.frz o (.dT kvs)) := upd_same
      have sm3 : Same H (upd H2 d (.frz o (.dT kvs))) := Same.put sm hd
      generalize upd H2 d (.frz o (.dT kvs)) = H3 at hf sm3 ⊢
      refine comp_dk (fun σ => ∃ u, σ = [u, some (.ref d)]) (fun i ys H' => H' = H3 /\ Paired (IntsAt H3) ys ((keysN (kvs.take i)).map l2k)) ⟨_, rfl⟩ ⟨rfl, .nil⟩ (natB kl) (fun i ys H' z => by rw [z.1]; exact hf) ?_ ?_
      · rintro i b key vv ys σ H4 N ek hb ⟨u, rfl⟩ ⟨rfl, hy⟩ hN
        obtain ⟨k2, e2⟩ := tab.val _ (List.mem_of_getElem? ek)
        injection e2 with e3 e4
        subst e3 e4
        dsimp only [gName, List.set]
        have hv : valV kvs (kk k2) = some (.int (coef ts k2)) := tab_val tab (List.mem_map.mpr ⟨_, List.mem_of_getElem? ek, rfl⟩)
        refine ⟨_, rfl, _, rfl, d, _, rfl, .inr ⟨kvs, kk k2, b, .inr ⟨o, hf⟩, rfl, hb, hv.symm⟩, rfl, _, rfl, ?_⟩
        have e5 := keys_take ek
        rw [selP_kk] at e5
        by_cases c : coef ts k2 = 0
        · rw [decide_eq_true (show V.int (coef ts k2) = V.int 0 by rw [c])]
          rw [if_pos c] at e5
          have e6 : keysN (kvs.take (i + 1)) = keysN (kvs.take i) := by rw [e5]; simp
          refine iteF (hN _ _ _ ⟨_, rfl⟩ ⟨rfl, ?_⟩ (by omega))
          rw [e6]
          exact hy
        · rw [decide_eq_false (show ¬ V.int (coef ts k2) = V.int 0 from fun z => c (by injection z))]
          rw [if_neg c] at e5
          have e6 : keysN (kvs.take (i + 1)) = keysN (kvs.take i) ++ [k2] := by rw [e5]; rfl
          refine iteT ⟨_, rfl, hN _ _ _ ⟨_, rfl⟩ ⟨rfl, ?_⟩ (by simp)⟩
          rw [e6, List.map_append]
          exact L2.Paired.snoc hy ⟨b, rfl, hb⟩
      · rintro ys H4 ⟨rfl, hy⟩ l hl
        rw [List.take_length] at hy
        have s5 := Same.new (o := HO.lst ys) hl
        have hl5 : (upd H4 l (.lst ys)) l = some (.lst ys) := upd_same
        have hy5 : Paired (IntsAt (upd H4 l (.lst ys))) ys ((keysN kvs).map l2k) := L2.Paired.mapP hy fun _ _ q => q.same s5
        have hf5 := s5 _ _ hf
        generalize upd H4 l (.lst ys) = H5 at s5 hl5 hy5 hf5 ⊢
        have yl : ys.length = (keysN kvs).length := by have := Paired.length hy; rwa [List.length_map] at this
        have sl := sel_len tab
        have nl : (keysN kvs).length = (sel kvs).length := by rw [keysN_eq, List.length_map]
        refine ⟨_, rfl, l, ys, _, rfl, SqL.of hl5, by omega, hy5, fun ks hks => ?_, fun l2 rs' kss' p1 p2 p3 hl2 => ?_⟩
        · obtain ⟨t, _, rfl⟩ := List.mem_map.mp hks
          intro z
          cases z
        · obtain ⟨M, rfl, inM, pL, ll⟩ := keys_sorted tab p2 p3
          have s6 := Same.new (o := HO.lst rs') hl2
          have hl6 : (upd H5 l2 (.lst rs')) l2 = some (.lst rs') := upd_same
          have p6 : Paired (IntsAt (upd H5 l2 (.lst rs'))) rs' (M.map l2k) := L2.Paired.mapP p1 fun _ _ q => q.same s6
          have hf6 := s6 _ _ hf5
          generalize upd H5 l2 (.lst rs') = H6 at s6 hl6 p6 hf6 ⊢
          have rl6 : rs'.length = M.length := by have := Paired.length p6; rwa [List.length_map] at this
          refine ⟨l2, rfl, ⟨_, SqL.of hl6⟩, comp_seq (k := .l) (a := l2) (xs := rs') (fun σ => ∃ u, σ = [u, some (.ref d)]) (fun i zs H' => Same H6 H' /\ Paired (TermAt H') zs ((M.take i).map (pOf ts))) ⟨_, rfl⟩ ⟨Same.refl _, .nil⟩ (natB (by omega)) (fun i zs H' _ z => SqL.of (z.1 _ _ hl6)) ?_ ?_⟩
          · rintro i x zs σ H7 N hx ⟨u, rfl⟩ ⟨sm7, hz⟩ hN
            obtain ⟨ks, e1, b, rfl, hb⟩ := Paired.at p6 hx
            rw [List.getElem?_map] at e1
            obtain ⟨k2, e2, rfl⟩ : ∃ k2, M[i]? = some k2 /\ l2k k2 = ks := by
              cases e : M[i]? with
              | none => rw [e] at e1; cases e1
              | some k2 => rw [e] at e1; exact ⟨k2, rfl, Option.some.inj e1⟩
            have hb7 : H7 b = some (.tup [.int k2.1, .int k2.2]) := sm7 _ _ hb
            have hf7 := sm7 _ _ hf6
            have hv : valV kvs (kk k2) = some (.int (coef ts k2)) := tab_val tab (inM k2 (List.mem_of_getElem? e2))
            have j0 : atI ([.int k2.1, .int k2.2] : List V) 0 = some (.int k2.1) := atI_nat (j := 0) rfl
            have j1 : atI ([.int k2.1, .int k2.2] : List V) 1 = some (.int k2.2) := atI_nat (j := 1) rfl
            dsimp only [gName, List.set]
            refine yesT ?_
            refine ⟨_, rfl, b, _, _, _, rfl, rfl, SqT.of hb7, j0, _, rfl, b, _, _, _, rfl, rfl, SqT.of hb7, j1, _, rfl, _, rfl, d, _, rfl, .inr ⟨kvs, kk k2, b, .inr ⟨o, hf7⟩, rfl, hb7, hv.symm⟩, by show 3 <= sizeLine; decide, fun c2 hc2 => ?_⟩
            have s8 := Same.new (o := HO.tup [.int k2.1, .int k2.2, .int (coef ts k2)]) hc2
            refine hN _ _ _ ⟨_, rfl⟩ ⟨sm7.trans s8, ?_⟩ (by simp)
            rw [take_succ_of e2, List.map_append]
            exact L2.Paired.snoc (terms_same hz s8) ⟨c2, rfl, upd_same⟩
          · rintro zs H7 ⟨sm7, hz⟩ l3 hl3
            rw [rl6, List.take_length] at hz
            refine ⟨l3, zs, rfl, .inl ⟨SqL.of upd_same, fun c hc => ?_⟩⟩
            have s8 := Same.new (o := HO.lst zs) hl3
            have s9 := Same.new (o := HO.tup zs) hc
            exact q _ _ _ (((sm3.trans s5).trans s6).trans (sm7.trans (s8.trans s9))) pL (by rw [List.length_map]; exact ll) ⟨c, zs, rfl, upd_same, terms_same hz (s8.trans s9)⟩
end
def spAt (K : W.Frag) : Sp := fun vs H Q _ => ∃ (a : Addr) (ns : List Int) (k : Nat), vs = [.ref a, .int k] /\ SqL K H a (ns.map V.int) /\ Q (.int (ns.getD k 0)) H
def TB (t : T3) : Prop := 0 <= t.1 /\ t.1 <= 60 /\ 0 <= t.2.1 /\ t.2.1 <= 60 /\ t.2.2.natAbs <= 10 ^ 58
def spNumber : Sp := fun vs H Q _ => ∃ c : Int, vs = [.int c] /\ ∀ n : Int, n.natAbs <= 10 ^ 58 -> Q (.int n) H
def spTerm : Sp := fun vs H Q _ => ∃ c : Int, vs = [.int c] /\ ∀ (t : T3) d H', Same H H' -> TB t -> H' d = some (.tup [.int t.1, .int t.2.1, .int t.2.2]) -> Q (.ref d) H'
theorem mod_in (a n : Int) (h : 0 < n) : 0 <= a % n /\ a % n < n := ⟨Int.emod_nonneg _ (by omega), Int.emod_lt_of_pos _ h⟩
theorem cut_map (ns : List Int) (lo hi : Option Int) : ∃ ms : List Int, cutV (ns.map V.int) lo hi = ms.map V.int /\ ms.length <= ns.length := by
  refine ⟨(ns.drop (HT.sIx (ns.map V.int).length 0 lo)).take (HT.sIx (ns.map V.int).length (ns.map V.int).length hi - HT.sIx (ns.map V.int).length 0 lo), ?_, ?_⟩
  · unfold cutV
    rw [List.map_take, List.map_drop]
  · rw [List.length_take, List.length_drop]; omega
theorem p58 : (10 : Int) ^ (58 : Int).toNat = 10 ^ 58 := by decide +kernel
theorem pos58 : (0 : Int) < 2 * 10 ^ (58 : Int).toNat := by decide +kernel
section
variable {P : Program} {w : World} {K : W.Frag} {mg : Str -> Option Value} {base : Heap}
theorem scAt : FnScope ["_law_script", "_law_k"] ["_law_script", "_law_k"] (defScope sAt) := ⟨rfl, rfl, rfl, by decide +kernel, rfl, by decide +kernel, by decide +kernel⟩
theorem d_at (T : TxP mg) (S : Src K mg "_law_at" sAt ["_law_script", "_law_k"]) : Def P w K mg base 1 "_law_at" ["_law_script", "_law_k"] (spAt K) := by
  refine S.def scAt (fun vs H Q E h => ?_) (fun f cdv A outer s H vs Q E hr h => ?_)
  · obtain ⟨_, _, _, rfl, _⟩ := h; rfl
  · obtain ⟨a, ns, k, rfl, hq, q⟩ := h
    refine ⟨_, pss_cons (ps_if (pt_cmpR op_lt (pv 1) (pe_callB (call_lenK K) (by rfl) T.len PySem.boot_len (pa_cons (pv 0) pa_nil)) (nomark _)) (pss_one (ps_ret (pe_ix (ix_listK K) (pv 0) (pv 1) (fun _ _ => rfl)))) pss_nil) (pss_one (ps_ret pe_int)), ?_⟩
    refine ⟨_, rfl, _, rfl, a, _, rfl, .inl hq, _, _, rfl, rfl, _, rfl, ?_⟩
    rw [List.length_map]
    by_cases h : k < ns.length
    · rw [decide_eq_true (show (k : Int) < (ns.length : Int) by omega)]
      refine iteT ⟨_, rfl, _, rfl, a, _, _, .int (ns.getD k 0), rfl, rfl, hq, atI_nat ?_, q⟩
      rw [List.getElem?_map, List.getD_eq_getElem?_getD]
      simp [h]
    · rw [decide_eq_false (show ¬ (k : Int) < (ns.length : Int) by omega)]
      refine iteF ?_
      rw [List.getD_eq_getElem?_getD, List.getElem?_eq_none (by omega)] at q
      exact q
theorem scNumber : FnScope ["_law_load"] ["_law_load"] (defScope sNumber) := ⟨rfl, rfl, rfl, by decide +kernel, rfl, by decide +kernel, by decide +kernel⟩
theorem d_number (S : Src K mg "_law_number" sNumber ["_law_load"]) : Def P w K mg base 1 "_law_number" ["_law_load"] spNumber := by
  refine S.def scNumber (fun vs H Q E h => ?_) (fun f cdv A outer s H vs Q E hr h => ?_)
  · obtain ⟨_, rfl, _⟩ := h; rfl
  · obtain ⟨c, rfl, q⟩ := h
    refine ⟨_, pss_cons (ps_if (pt_cmpR op_eq (pe_op op_mod (pv 0) pe_int) pe_int (nomark _)) (pss_one (ps_ret (pe_op op_sub (pe_op op_mod (pe_op op_fdiv (pv 0) pe_int) pe_int) pe_int))) pss_nil)
      (pss_one (ps_ret (pe_op op_sub (pe_op op_mod (pe_op op_fdiv (pv 0) pe_int) (pe_op op_mul pe_int (pe_op op_pow pe_int pe_int))) (pe_op op_pow pe_int pe_int)))), ?_⟩
    refine ⟨_, rfl, _, _, rfl, rfl, (by show (0 : Int) < 2; decide), rfl, _, rfl, ?_⟩
    refine ite2 (fun _ => ?_) (fun _ => ?_)
    · refine ⟨_, rfl, _, _, rfl, rfl, ⟨by decide, by decide⟩, _, _, rfl, rfl, (by show (0 : Int) < 41; decide), _, _, rfl, rfl, q _ ?_⟩
      have b := mod_in (c / 2) 41 (by decide)
      have : ((c / 2) % 41 - 20).natAbs <= 20 := by omega
      exact Nat.le_trans this (by decide)
    · refine ⟨_, rfl, _, _, rfl, rfl, ⟨by decide, by decide⟩, _, _, rfl, rfl, ⟨by decide, by decide, by decide⟩, _, _, rfl, rfl, .inl ⟨by decide, by decide⟩, _, _, rfl, rfl, pos58, _, _, rfl, rfl, ⟨by decide, by decide, by decide⟩, _, _, rfl, rfl, q _ ?_⟩
      have b := mod_in (c / 2) (2 * 10 ^ (58 : Int).toNat) pos58
      rw [p58] at b ⊢
      have e : ((10 : Nat) ^ 58 : Nat) = ((10 : Int) ^ 58).natAbs := by decide +kernel
      rw [e]
      generalize (10 : Int) ^ 58 = m at b ⊢
      generalize c / 2 % (2 * m) = z at b ⊢
      omega
theorem scTerm : FnScope ["_law_cell", "_law_load"] ["_law_cell"] (defScope sTerm) := ⟨rfl, rfl, rfl, by decide +kernel, rfl, by decide +kernel, by decide +kernel⟩
theorem d_term (S : Src K mg "_law_term" sTerm ["_law_cell"]) (DN : Def P w K mg base 1 "_law_number" ["_law_load"] spNumber) : Def P w K mg base 2 "_law_term" ["_law_cell"] spTerm := by
  refine S.def scTerm (fun vs H Q E h => ?_) (fun f cdv A outer s H vs Q E hr h => ?_)
  · obtain ⟨_, rfl, _⟩ := h; rfl
  · obtain ⟨c, rfl, q⟩ := h
    refine ⟨_, pss_cons (ps_set (i := 1) scTerm.nd rfl (Or.inl rfl) (pe_op op_fdiv (pv 0) pe_int))
      (pss_cons (ps_if (pt_cmpR op_lt (pe_op op_mod (pv 0) pe_int) pe_int (nomark _)) (pss_one (ps_ret (pe_tup (pa_cons (pe_op op_mod (pv 1) pe_int) (pa_cons (pe_op op_mod (pe_op op_fdiv (pv 1) pe_int) pe_int)
        (pa_cons (pe_ix (ix_listK K) (pe_lst (pa_cons (pe_op op_sub (pe_op op_mod (pe_op op_fdiv (pv 1) pe_int) pe_int) pe_int) (pa_cons (pe_def DN hr rfl (pa_cons (pe_op op_fdiv (pv 1) pe_int) pa_nil)) pa_nil))) (pe_op op_mod (pv 0) pe_int) (fun _ _ => rfl)) pa_nil)))))) pss_nil)
      (pss_one (ps_ret (pe_tup (pa_cons (pe_op op_mod (pv 1) pe_int) (pa_cons (pe_op op_mod (pe_op op_fdiv (pv 1) pe_int) pe_int)
        (pa_cons (pe_ix (ix_listK K) (pe_lst (pa_cons (pe_op op_sub (pe_op op_mod (pe_op op_fdiv (pv 1) pe_int) pe_int) pe_int) (pa_cons (pe_def DN hr rfl (pa_cons (pe_op op_fdiv (pv 1) pe_int) pa_nil)) pa_nil))) (pe_op op_sub (pe_op op_mod (pv 0) pe_int) pe_int) (fun _ _ => rfl)) pa_nil))))))), ?_⟩
    refine ⟨_, rfl, _, _, rfl, rfl, ⟨by decide, by decide⟩, ?_⟩
    have b4 := mod_in c 4 (by decide)
    have pick : ∀ (m : Int) (x y : Int) (p : Addr) (H1 : Hp), 0 <= m -> m < 2 -> H1 p = some (.lst [.int x, .int y]) -> x.natAbs <= 10 ^ 58 -> y.natAbs <= 10 ^ 58 -> ∀ QQ : VK, (∀ n : Int, n.natAbs <= 10 ^ 58 -> QQ (.int n) H1) -> rIxL K (.ref p) (.int m) H1 QQ := by
      intro m x y p H1 m0 m2 hp hx hy QQ hQ
      by_cases e : m = 0
      · subst e
        exact ⟨p, _, _, .int x, rfl, rfl, SqL.of hp, atI_nat (j := 0) rfl, hQ x hx⟩
      · have : m = 1 := by omega
        subst this
        exact ⟨p, _, _, .int y, rfl, rfl, SqL.of hp, atI_nat (j := 1) rfl, hQ y hy⟩
    have small : ∀ z : Int, (z % 7 - 3).natAbs <= 10 ^ 58 := fun z => by
      have b := mod_in z 7 (by decide)
      have : (z % 7 - 3).natAbs <= 3 := by omega
      exact Nat.le_trans this (by decide)
    refine ⟨_, rfl, _, _, rfl, rfl, (by show (0 : Int) < 4; decide), _, _, rfl, rfl, _, rfl, ?_⟩
    by_cases h2 : c % 4 < 2
    · rw [decide_eq_true h2]
      refine iteT ⟨_, rfl, _, _, rfl, rfl, (by show (0 : Int) < 4; decide), _, rfl, _, _, rfl, rfl, ⟨by decide, by decide⟩, _, _, rfl, rfl, (by show (0 : Int) < 4; decide), ?_⟩
      refine ⟨_, rfl, _, _, rfl, rfl, ⟨by decide, by decide⟩, _, _, rfl, rfl, (by show (0 : Int) < 7; decide), _, _, rfl, rfl, _, rfl, _, _, rfl, rfl, ⟨by decide, by decide⟩, _, rfl, fun n hn => ⟨by show 2 <= sizeLine; decide, fun p hp => ?_⟩⟩
      refine ⟨_, rfl, _, _, rfl, rfl, (by show (0 : Int) < 4; decide), pick _ _ _ p _ b4.1 h2 upd_same (small _) hn _ fun v hv => ⟨by show 3 <= sizeLine; decide, fun d hd => ?_⟩⟩
      have b1 := mod_in (c / 4) 4 (by decide)
      have b2 := mod_in (c / 4 / 4) 4 (by decide)
      exact q (_, _, v) d _ ((Same.new hp).trans (Same.new hd)) ⟨b1.1, by show c / 4 % 4 <= 60; omega, b2.1, by show c / 4 / 4 % 4 <= 60; omega, hv⟩ upd_same
    · rw [decide_eq_false h2]
      refine iteF ⟨_, rfl, _, _, rfl, rfl, (by show (0 : Int) < 61; decide), _, rfl, _, _, rfl, rfl, ⟨by decide, by decide⟩, _, _, rfl, rfl, (by show (0 : Int) < 61; decide), ?_⟩
      refine ⟨_, rfl, _, _, rfl, rfl, ⟨by decide, by decide⟩, _, _, rfl, rfl, (by show (0 : Int) < 7; decide), _, _, rfl, rfl, _, rfl, _, _, rfl, rfl, ⟨by decide, by decide⟩, _, rfl, fun n hn => ⟨by show 2 <= sizeLine; decide, fun p hp => ?_⟩⟩
      refine ⟨_, rfl, _, _, rfl, rfl, (by show (0 : Int) < 4; decide), _, _, rfl, rfl, pick _ _ _ p _ (by omega) (by omega) upd_same (small _) hn _ fun v hv => ⟨by show 3 <= sizeLine; decide, fun d hd => ?_⟩⟩
      have b1 := mod_in (c / 4) 61 (by decide)
      have b2 := mod_in (c / 4 / 61) 61 (by decide)
      exact q (_, _, v) d _ ((Same.new hp).trans (Same.new hd)) ⟨b1.1, by show c / 4 % 61 <= 60; omega, b2.1, by show c / 4 / 61 % 61 <= 60; omega, hv⟩ upd_same
end
end My
namespace My
open PySem L2 PySem.NumText PyProof.Rows
def decC (n : Int) : List Nat := (Str.ofString (toString n)).cps.toList
theorem mkS_list (l : List Nat) : (mkS l).cps.toList = l := by unfold mkS; simp
theorem mkS_len (l : List Nat) : (mkS l).length = l.length := by show (l.toArray).size = _; simp
theorem mkS_size (l : List Nat) : (mkS l).cps.size = l.length := by show (l.toArray).size = _; simp
theorem str_ext {a b : Str} (h : a.cps.toList = b.cps.toList) : a = b := by rw [<- mkS_cps a, <- mkS_cps b, h]
theorem app_codes (a b : Str) : (a ++ b).cps.toList = a.cps.toList ++ b.cps.toList := by rw [PySem.Str.cps_append, Array.toList_append]
theorem mk_app (a b : List Nat) : mkS a ++ mkS b = mkS (a ++ b) := str_ext (by rw [app_codes, mkS_list, mkS_list, mkS_list])
theorem mkS_inj {a b : List Nat} (h : mkS a = mkS b) : a = b := by rw [<- mkS_list a, h, mkS_list]
theorem dec_str (n : Int) : (Str.ofString (toString n)) = mkS (decC n) := (mkS_cps _).symm
theorem dec_nat (m : Nat) : decC ((m : Nat) : Int) = (Nat.toDigits 10 m).map Char.toNat := PySem.W.KIN.signs_num m
theorem dec_neg (m : Nat) (h : 0 < m) : decC (-(m : Int)) = 45 :: decC (m : Int) := by
  obtain ⟨k, rfl⟩ : ∃ k, m = k + 1 := ⟨m - 1, by lia⟩
  rw [dec_nat]
  unfold decC
  rw [signs_ofString]
  show (toString (Int.negSucc k)).toList.map Char.toNat = _
  have e : toString (Int.negSucc k) = "-" ++ Nat.repr (k + 1) := rfl
  rw [e, String.toList_append, List.map_append, Nat.toList_repr]
  rfl
theorem dec_dig {n : Int} (h : 0 <= n) : AllDigits (decC n) := by
  obtain ⟨m, rfl⟩ := Int.eq_ofNat_of_zero_le h
  intro c hc
  rw [dec_nat] at hc
  obtain ⟨ch, hch, e⟩ := List.mem_map.mp hc
  rw [<- e]
  exact digit_range (Nat.isDigit_of_mem_toDigits (by decide) (by decide) hch)
theorem dec_len {n : Int} (h : 0 <= n) {k : Nat} (hk : 1 <= k) (hn : n < 10 ^ k) : (decC n).length <= k := by
  have := toString_length_le h hk hn
  rw [dec_str, mkS_len] at this
  exact this
theorem dec_signs (n : Int) : ∀ c ∈ decC n, c = 45 \/ (48 <= c /\ c <= 57) := by
  intro c hc
  by_cases h : 0 <= n
  · exact .inr (dec_dig h c hc)
  · obtain ⟨m, rfl⟩ : ∃ m : Nat, n = -(m : Int) := ⟨(-n).toNat, by lia⟩
    rw [dec_neg m (by lia)] at hc
    rcases List.mem_cons.mp hc with e | hc
    · exact .inl e
    · exact .inr (dec_dig (by lia) c hc)
theorem dec_len' {n : Int} (hn : n.natAbs < 10 ^ 60) : (decC n).length <= 61 := by
  by_cases h : 0 <= n
  · have := dec_len (n := n) h (k := 60) (by decide) (by lia)
    lia
  · obtain ⟨m, rfl⟩ : ∃ m : Nat, n = -(m : Int) := ⟨(-n).toNat, by lia⟩
    rw [dec_neg m (by lia)]
    have := dec_len (n := (m : Int)) (by lia) (k := 60) (by decide) (by lia)
    rw [List.length_cons]
    lia
def pwK (k : Int) : List Nat := if k = 1 then [] else 94 :: decC k
def pwC (u : Nat) (k : Int) : List Nat := if k = 0 then [] else 42 :: u :: pwK k
def tmC (t : T3) : List Nat := decC t.2.2 ++ pwC 120 t.1 ++ pwC 121 t.2.1
theorem pwK_signs (k : Int) : ∀ c ∈ pwK k, c = 94 \/ c = 45 \/ (48 <= c /\ c <= 57) := by
  intro c hc
  unfold pwK at hc
  split at hc
  · cases hc
  · rcases List.mem_cons.mp hc with e | hc
    · exact .inl e
    · exact .inr (dec_signs k c hc)
theorem pw_signs (u : Nat) (k : Int) : ∀ c ∈ pwC u k, c = 42 \/ c = u \/ c = 94 \/ c = 45 \/ (48 <= c /\ c <= 57) := by
  intro c hc
  unfold pwC at hc
  split at hc
  · cases hc
  · rcases List.mem_cons.mp hc with e | hc
    · exact .inl e
    · rcases List.mem_cons.mp hc with e | hc
      · exact .inr (.inl e)
      · exact .inr (.inr (pwK_signs k c hc))
structure TmOk (t : T3) : Prop where
  i0 : 0 <= t.1
  i6 : t.1 <= 60
  j0 : 0 <= t.2.1
  j6 : t.2.1 <= 60
  nz : t.2.2 ≠ 0
  ab : t.2.2.natAbs < 10 ^ 60
theorem pwK_len {k : Int} (h0 : 0 <= k) (h6 : k <= 60) : (pwK k).length <= 3 := by
  unfold pwK
  split
  · simp
  · have := dec_len (n := k) h0 (k := 2) (by decide) (by lia)
    rw [List.length_cons]
    lia
theorem pwC_len {u : Nat} {k : Int} (h0 : 0 <= k) (h6 : k <= 60) : (pwC u k).length <= 5 := by
  have := pwK_len h0 h6
  unfold pwC
  split
  · simp
  · rw [List.length_cons, List.length_cons]; lia
theorem tm_len {t : T3} (h : TmOk t) : (tmC t).length <= 71 := by
  have h1 := dec_len' h.ab
  have h2 := pwC_len (u := 120) h.i0 h.i6
  have h3 := pwC_len (u := 121) h.j0 h.j6
  unfold tmC
  rw [List.length_append, List.length_append]
  lia
def glue3 : List (List Nat) -> List Nat
  | [] => []
  | [w] => w
  | w :: v :: r => w ++ (32 :: 43 :: 32 :: glue3 (v :: r))
section
variable {x y : Str} (hy : y.cps.toList = [32, 43, 32])
include hy
end
theorem glue3_cons (h : List Nat) : ∀ ts : List (List Nat), glue3 (h :: ts) = h ++ ts.flatMap fun t => [32, 43, 32] ++ t
  | [] => by show h = _; simp
  | t :: ts => by
    show h ++ (32 :: 43 :: 32 :: glue3 (t :: ts)) = _
    rw [glue3_cons t ts]
    simp
theorem join_codes (z : Str) : ∀ (ys : List Str), (Txt.join z ys).cps.toList = match ys with | [] => [] | y :: r => y.cps.toList ++ r.flatMap fun t => z.cps.toList ++ t.cps.toList
  | [] => by unfold Txt.join Builtin.Str.glued; rfl
  | y :: r => by
    unfold Txt.join Builtin.Str.glued
    show (List.foldl (fun acc p => acc ++ z.cps ++ p.cps) y.cps r).toList = _
    have key : ∀ (r : List Str) (a : Array Nat), (List.foldl (fun acc (p : Str) => acc ++ z.cps ++ p.cps) a r).toList = a.toList ++ r.flatMap fun t => z.cps.toList ++ t.cps.toList := by
      intro r
      induction r with
      | nil => intro a; simp
      | cons t r ih => intro a; rw [List.foldl_cons, ih]; simp
    exact key r y.cps
theorem join3 {z : Str} (hz : z.cps.toList = [32, 43, 32]) {ws : List (List Nat)} (ne : ws ≠ []) : Txt.join z (ws.map mkS) = mkS (glue3 ws) := by
  apply str_ext
  rw [join_codes, mkS_list]
  match ws, ne with
  | w :: ts, _ =>
    show (mkS w).cps.toList ++ (ts.map mkS).flatMap (fun t => z.cps.toList ++ t.cps.toList) = _
    rw [List.flatMap_map, glue3_cons]
    simp only [mkS_list, hz]
def polyC (L : List T3) : List Nat := if L = [] then [48] else glue3 (L.map tmC)
theorem glue3_len : ∀ {ws : List (List Nat)} {k : Nat}, (∀ w ∈ ws, w.length <= k) -> (glue3 ws).length <= ws.length * (k + 3)
  | [], _, _ => Nat.zero_le _
  | [w], k, h => by
    have := h w (List.mem_cons_self ..)
    show w.length <= 1 * (k + 3)
    lia
  | w :: v :: r, k, h => by
    have h1 := h w (List.mem_cons_self ..)
    have ih := glue3_len (ws := v :: r) (k := k) fun w hw => h w (List.mem_cons_of_mem _ hw)
    show (w ++ (32 :: 43 :: 32 :: glue3 (v :: r))).length <= _
    rw [List.length_append, List.length_cons, List.length_cons, List.length_cons, List.length_cons, Nat.add_mul]
    lia
end My
namespace My
open PySem L2 PySem.NumText PyProof.Rows
structure Tx26 (mg : Str -> Option Value) : Prop where
  str : mg "str" = none
  all : mg "all" = none
  zip : mg "zip" = none
  fig : ∃ t, mg "FIGURES" = some (.str "0123456789" t)
  mfig : ∃ t, mg "MOST_FIGURES" = some (.int 60 t)
  mpow : ∃ t, mg "MOST_POWER" = some (.int 60 t)
  mter : ∃ t, mg "MOST_TERMS" = some (.int 100 t)
theorem boot_str' : bootBuiltins "str" = some (.type "str") := by first | rfl | decide +kernel
theorem boot_all6' : bootBuiltins "all" = some (.builtin "all") := by first | rfl | decide +kernel
theorem lit_dash : ("-" : Str) = mkS [45] := by decide +kernel
theorem lit_hat : ("^" : Str) = mkS [94] := by decide +kernel
theorem lit_star : ("*" : Str) = mkS [42] := by decide +kernel
theorem lit_x : ("x" : Str) = mkS [120] := by decide +kernel
theorem lit_y : ("y" : Str) = mkS [121] := by decide +kernel
theorem lit_none : ("" : Str) = mkS [] := by decide +kernel
theorem lit_zero : ("0" : Str) = mkS [48] := by decide +kernel
theorem lit_plus : (" + " : Str) = mkS [32, 43, 32] := by decide +kernel
theorem starts_one (l : List Nat) (c : Nat) : Txt.startswith (mkS l) (mkS [c]) = (l.head? == some c) := by
  have e : Txt.startswith (mkS l) (mkS [c]) = (decide (0 + (mkS [c]).length <= (mkS l).length) && Builtin.Str.subAt (mkS l) ⟨#[c]⟩ 0) := rfl
  rw [e, sub_one, mkS_list, mkS_len, mkS_len]
  cases l with
  | nil => rfl
  | cons a l => simp
theorem strs_dec (a b : List Nat) : decide (V.str (mkS a) = V.str (mkS b)) = decide (a = b) := by
  rw [decide_eq_decide]
  exact ⟨fun z => mkS_inj (by injection z), fun z => by rw [z]⟩
theorem line_of {n : Nat} (h : n <= 100000) : n <= sizeLine := Nat.le_trans h (by decide)
theorem lt_line {n : Nat} (h : n <= 100000) : n < sizeLine := Nat.lt_of_le_of_lt h (by decide)
theorem ge_no {a b : T3} (h : keyLt a b) : lexGe (decide (2 <= 2)) [a.1, a.2.1] [b.1, b.2.1] = false := by
  show (if a.1 = b.1 then (if a.2.1 = b.2.1 then _ else decide (b.2.1 <= a.2.1)) else decide (b.1 <= a.1)) = false
  unfold keyLt at h
  by_cases e : a.1 = b.1
  · rw [if_pos e, if_neg (by omega)]
    exact decide_eq_false (by omega)
  · rw [if_neg e]
    exact decide_eq_false (by omega)
theorem cut2 (x y z : V) : cutV [x, y, z] none (some 2) = [x, y] := rfl
theorem not2 (x y z : V) : ¬ (HT.sIx [x, y, z].length 0 none = 0 /\ HT.sIx [x, y, z].length [x, y, z].length (some 2) = [x, y, z].length) := by
  rintro ⟨_, h⟩
  have e := HT.sIx_nat [x, y, z].length [x, y, z].length 2
  rw [show (some ((2 : Nat) : Int)) = some (2 : Int) from rfl] at e
  rw [e] at h
  simp at h
theorem ge_yes {a b : T3} (h : ¬ keyLt a b) : lexGe (decide (([b.1, b.2.1] : List Int).length <= ([a.1, a.2.1] : List Int).length)) [a.1, a.2.1] [b.1, b.2.1] = true := by
  show (if a.1 = b.1 then (if a.2.1 = b.2.1 then decide (2 <= 2) else decide (b.2.1 <= a.2.1)) else decide (b.1 <= a.1)) = true
  unfold keyLt at h
  by_cases e : a.1 = b.1
  · rw [if_pos e]
    by_cases e2 : a.2.1 = b.2.1
    · rw [if_pos e2]; rfl
    · rw [if_neg e2]; exact decide_eq_true (by lia)
  · rw [if_neg e]
    exact decide_eq_true (by lia)
theorem log_small {n : Int} (h : n.natAbs < 10 ^ 60) : n.natAbs.log2 < 1920 := by
  by_cases z : n.natAbs = 0
  · rw [z]; decide
  · refine (Nat.log2_lt z).mpr (Nat.lt_trans h ?_)
    decide +kernel
theorem small60 {k : Int} (h0 : 0 <= k) (h6 : k <= 60) : k.natAbs < 10 ^ 60 := Nat.lt_of_le_of_lt (show k.natAbs <= 60 by lia) (by decide)
theorem keyLt_ge {t1 t2 : T3} (lt : keyLt t1 t2) : lexGe (decide (([t2.1, t2.2.1] : List Int).length <= ([t1.1, t1.2.1] : List Int).length)) [t1.1, t1.2.1] [t2.1, t2.2.1] = false := ge_no lt
theorem k_str (K : W.Frag) : PySem.W.kitOne K (.type "str") (.type "str") = some true := by first | rfl | decide +kernel
theorem cut_one (xs : List V) (x : V) : cutV (x :: xs) (some 1) none = xs := by
  unfold cutV
  have e1' : HT.sIx (x :: xs).length 0 (some 1) = min 1 (x :: xs).length := HT.sIx_nat (x :: xs).length 0 1
  have e2' : HT.sIx (x :: xs).length (x :: xs).length none = (x :: xs).length := rfl
  rw [e1', e2']
  simp
end My
namespace My
open PySem L2 PySem.NumText PyProof.Rows
def Asc (w : List Nat) : Prop := (∀ c ∈ w, c < 128) /\ w.length <= 9000
theorem Asc.all {w : List Nat} (h : Asc w) : (mkS w).cps.all (· < 128) = true := by
  rw [<- Array.all_toList, mkS_list, List.all_eq_true]
  intro x hx
  exact decide_eq_true (h.1 x hx)
theorem Asc.len {w : List Nat} (h : Asc w) : (mkS w).length <= sizeLine := by rw [mkS_len]; exact Nat.le_trans h.2 (by decide)
theorem Asc.lt {w : List Nat} (h : Asc w) : w.length < sizeLine := Nat.lt_of_le_of_lt h.2 (by decide)
theorem Asc.of {w v : List Nat} (h : Asc w) (s : ∀ c ∈ v, c ∈ w) (l : v.length <= w.length) : Asc v := ⟨fun c hc => h.1 c (s c hc), Nat.le_trans l h.2⟩
theorem Asc.drop {w : List Nat} (h : Asc w) (k : Nat) : Asc (w.drop k) := h.of (fun _ hc => List.mem_of_mem_drop hc) (by rw [List.length_drop]; lia)
theorem slice_nat (l : List Nat) {lo hi : Option Int} {a b : Nat} (ea : (lo = none /\ a = 0) \/ ∃ a' : Nat, lo = some (a' : Int) /\ a = min a' l.length) (eb : (hi = none /\ b = l.length) \/ ∃ b' : Nat, hi = some (b' : Int) /\ b = min b' l.length) (hab : a <= b) :
    Txt.slice (mkS l) lo hi = mkS ((l.drop a).take (b - a)) := by
  have hl : (mkS l).length = l.length := mkS_len l
  have e0 : Builtin.Str.strSliceIndices lo hi 1 (mkS l).length = Builtin.Str.strSliceIndices (some (a : Int)) (some (b : Int)) 1 (mkS l).length := by
    unfold Builtin.Str.strSliceIndices
    simp only [show ((1 : Int) > 0) = True from by simp, if_true]
    rw [if_neg (show ¬ ((a : Nat) : Int) < 0 by lia), if_neg (show ¬ ((b : Nat) : Int) < 0 by lia)]
    congr 1
    · rcases ea with ⟨rfl, rfl⟩ | ⟨a', rfl, rfl⟩
      · show (0 : Int) = _
        rw [hl]
        show (0 : Int) = max 0 (min 0 (l.length : Int))
        lia
      · show max (0 : Int) (min (if (a' : Int) < 0 then _ else (a' : Int)) _) = _
        rw [if_neg (by lia), hl]
        lia
    · rcases eb with ⟨rfl, rfl⟩ | ⟨b', rfl, rfl⟩
      · show (((mkS l).length : Nat) : Int) = _
        rw [hl]
        lia
      · show max (0 : Int) (min (if (b' : Int) < 0 then _ else (b' : Int)) _) = _
        rw [if_neg (by lia), hl]
        lia
  have hb : b <= (mkS l).length := by
    rw [hl]
    rcases eb with ⟨_, rfl⟩ | ⟨b', _, rfl⟩
    · exact Nat.le_refl _
    · exact Nat.min_le_right _ _
  unfold Txt.slice
  rw [e0, StrLaws.strSliceIndices_plain hab hb]
  by_cases hw : b - a = (mkS l).length
  · rw [if_pos (by rw [List.length_map, List.length_range, hw]; simp)]
    have a0 : a = 0 := by lia
    subst a0
    rw [List.drop_zero, List.take_of_length_le (by rw [hl] at hw; lia)]
  · rw [if_neg (by rw [List.length_map, List.length_range]; simpa using hw)]
    have := StrLaws.sliced_plain (mkS l) (a := a) (b := b) hab hb
    rw [StrLaws.strSliceIndices_plain hab hb] at this
    rw [this, mkS_list]
    rfl
theorem slice_from (l : List Nat) (a : Nat) : Txt.slice (mkS l) (some (a : Int)) none = mkS (l.drop a) := by
  rw [slice_nat l (a := min a l.length) (b := l.length) (.inr ⟨a, rfl, rfl⟩) (.inl ⟨rfl, rfl⟩) (Nat.min_le_right _ _)]
  congr 1
  by_cases h : a <= l.length
  · rw [Nat.min_eq_left h, List.take_of_length_le (by rw [List.length_drop]; lia)]
  · rw [Nat.min_eq_right (by lia), List.drop_eq_nil_of_le (Nat.le_refl _), List.drop_eq_nil_of_le (by lia), List.take_nil]
theorem slice_to (l : List Nat) (b : Nat) : Txt.slice (mkS l) none (some (b : Int)) = mkS (l.take b) := by
  rw [slice_nat l (a := 0) (b := min b l.length) (.inl ⟨rfl, rfl⟩) (.inr ⟨b, rfl, rfl⟩) (Nat.zero_le _)]
  congr 1
  rw [List.drop_zero, Nat.sub_zero]
  by_cases h : b <= l.length
  · rw [Nat.min_eq_left h]
  · rw [Nat.min_eq_right (by lia), List.take_length, List.take_of_length_le (by lia)]
def splitC (z y : List Nat) : List (List Nat) := (splitP (mkS z) (mkS y)).map (·.cps.toList)
theorem splitC_str (z y : List Nat) : (splitP (mkS z) (mkS y)) = (splitC z y).map mkS := by
  unfold splitC
  rw [List.map_map]
  exact (List.map_id _).symm.trans (List.map_congr_left fun p _ => (mkS_cps p).symm)
theorem splitC_ne (z y : List Nat) : splitC z y ≠ [] := by
  unfold splitC
  intro h
  exact splitP_ne _ _ (List.map_eq_nil_iff.mp h)
theorem splitC_len (z y : List Nat) : (splitC z y).length <= z.length + 2 := by
  unfold splitC
  rw [List.length_map]
  have := splitP_len (mkS z) (mkS y)
  rw [mkS_len] at this
  exact this
theorem Asc.part {z y p : List Nat} (h : Asc z) (hp : p ∈ splitC z y) : Asc p := by
  unfold splitC at hp
  obtain ⟨s, hs, rfl⟩ := List.mem_map.mp hp
  obtain ⟨h1, h2⟩ := splitP_sub hs
  rw [mkS_len] at h1
  rw [mkS_list] at h2
  refine h.of h2 ?_
  rw [Array.length_toList]
  exact h1
def isFig (c : Nat) : Bool := decide (48 <= c) && decide (c <= 57)
theorem fig_mem (c : Nat) : decide (c ∈ (("0123456789" : Str).cps.toList)) = isFig c := by
  have e : ("0123456789" : Str).cps.toList = [48, 49, 50, 51, 52, 53, 54, 55, 56, 57] := by decide +kernel
  rw [e]
  unfold isFig
  rw [<- Bool.decide_and]
  refine decide_eq_decide.mpr ?_
  simp only [List.mem_cons, List.not_mem_nil, or_false]
  omega
def okN (most : Nat) (w : List Nat) : Bool := decide (1 <= w.length) && decide (w.length <= most) && !(w.head? == some 48) && w.all isFig
def numN (most : Nat) (w : List Nat) : Option Int := if okN most w = true then some ((digitsVal w : Nat) : Int) else none
theorem okN_of {most : Nat} {w : List Nat} (h : okN most w = true) : 1 <= w.length /\ w.length <= most /\ w.head? ≠ some 48 /\ w.all isFig = true := by
  unfold okN at h
  simp only [Bool.and_eq_true, decide_eq_true_eq, Bool.not_eq_true', beq_eq_false_iff_ne, ne_eq] at h
  exact ⟨h.1.1.1, h.1.1.2, h.1.2, h.2⟩
theorem figs_int {w : List Nat} (h : w.all isFig = true) (h1 : 1 <= w.length) (h2 : w.length <= 640) : PySem.intText? (mkS w) = some ((digitsVal w : Nat) : Int) := by
  have d : AllDigits w := fun c hc => by
    have := List.all_eq_true.mp h c hc
    unfold isFig at this
    simpa using this
  have e := intText_digits (x := mkS w) (by rw [mkS_list]; exact d) (by rw [mkS_list]; intro z; rw [z] at h1; exact absurd h1 (by decide)) (by rw [mkS_len]; lia)
  rw [mkS_list] at e
  exact e
theorem fold_ge (r : List Nat) : ∀ n : Nat, n <= r.foldl (fun acc c => acc * 10 + (c - 48)) n := by
  induction r with
  | nil => intro n; exact Nat.le_refl _
  | cons c r ih => intro n; exact Nat.le_trans (by lia) (ih (n * 10 + (c - 48)))
theorem val_big {w : List Nat} (h : w.all isFig = true) (h0 : w.head? ≠ some 48) (h3 : 3 <= w.length) : 100 <= digitsVal w := by
  match w, h3 with
  | a :: b :: c :: r, _ =>
    have ha := List.all_eq_true.mp h a List.mem_cons_self
    unfold isFig at ha
    simp only [Bool.and_eq_true, decide_eq_true_eq] at ha
    have na : a ≠ 48 := fun z => h0 (by rw [z]; rfl)
    unfold digitsVal
    have := fold_ge r (((0 * 10 + (a - 48)) * 10 + (b - 48)) * 10 + (c - 48))
    refine Nat.le_trans ?_ this
    lia
def inP (o : Option Int) : Option Int := match o with
  | some k => if 2 <= k /\ k <= 60 then some k else none
  | none => none
theorem pw_two (r : List Nat) : inP (numN 60 r) = inP (numN 2 r) := by
  by_cases h : okN 60 r = true
  · obtain ⟨h1, h2, h3, h4⟩ := okN_of h
    by_cases hl : r.length <= 2
    · have : okN 2 r = true := by
        unfold okN
        simp [h1, hl, h3, h4]
      unfold numN
      rw [if_pos h, if_pos this]
    · have : ¬ okN 2 r = true := fun z => hl (okN_of z).2.1
      unfold numN
      rw [if_pos h, if_neg this]
      have := val_big h4 h3 (by lia)
      show (if _ then _ else none) = none
      rw [if_neg (by lia)]
  · have : ¬ okN 2 r = true := fun z => h (by
      obtain ⟨h1, h2, h3, h4⟩ := okN_of z
      unfold okN
      simp only [h4, Bool.and_true, Bool.and_eq_true, decide_eq_true_eq, Bool.not_eq_true', beq_eq_false_iff_ne, ne_eq]
      exact ⟨⟨h1, by lia⟩, h3⟩)
    unfold numN
    rw [if_neg h, if_neg this]
def pwN (w : List Nat) : Option Int := match w with
  | [] => some 1
  | c :: r => if c = 94 then inP (numN 60 r) else none
def timesN (w : List Nat) : Option Int := if w.head? = some 45 then (numN 60 w.tail).map fun n => -n else numN 60 w
def facN (u : Nat) (f : List Nat) : Option Int := if f.head? = some u then pwN f.tail else none
def termN (fs : List (List Nat)) : Option T3 := match fs with
  | [] => none
  | f :: r => match timesN f, r with
    | some t, [] => some (0, 0, t)
    | some t, [a] => if a.head? = some 120 then (pwN a.tail).map fun k => (k, 0, t) else (facN 121 a).map fun k => (0, k, t)
    | some t, [a, b] => match facN 120 a, facN 121 b with
      | some k, some l => some (k, l, t)
      | _, _ => none
    | _, _ => none
def wordN (w : List Nat) : Option T3 := termN (splitC w [42])
def wordsN : List (List Nat) -> Option (List T3)
  | [] => some []
  | w :: r => match wordN w, wordsN r with
    | some t, some ts => some (t :: ts)
    | _, _ => none
instance {a b : T3} : Decidable (keyLt a b) := by unfold keyLt; infer_instance
def upN3 : List T3 -> Bool
  | [] => true
  | [_] => true
  | a :: b :: r => decide (keyLt a b) && upN3 (b :: r)
def readN (z : List Nat) : Option (List T3) := if z = [48] then some [] else
  if (splitC z [32, 43, 32]).length <= 100 then (match wordsN (splitC z [32, 43, 32]) with
    | some L => if upN3 L = true then some L else none
    | none => none) else none
theorem words_app : ∀ {l : List (List Nat)} {w : List Nat} {qs : List T3} {p : T3}, wordsN l = some qs -> wordN w = some p -> wordsN (l ++ [w]) = some (qs ++ [p])
  | [], w, qs, p, h, hp => by
    cases h
    show (match wordN w, wordsN [] with | some t, some ts => some (t :: ts) | _, _ => none) = _
    rw [hp]
    rfl
  | v :: r, w, qs, p, h, hp => by
    have h' : (match wordN v, wordsN r with | some t, some ts => some (t :: ts) | _, _ => none) = some qs := h
    show (match wordN v, wordsN (r ++ [w]) with | some t, some ts => some (t :: ts) | _, _ => none) = _
    cases e1 : wordN v with
    | none => rw [e1] at h'; cases h'
    | some a =>
      cases e2 : wordsN r with
      | none => rw [e1, e2] at h'; cases h'
      | some as =>
        rw [e1, e2] at h'
        cases h'
        rw [words_app e2 hp]
        rfl
theorem words_none : ∀ {l : List (List Nat)} {w : List Nat}, w ∈ l -> wordN w = none -> wordsN l = none
  | v :: r, w, h, hp => by
    show (match wordN v, wordsN r with | some t, some ts => some (t :: ts) | _, _ => none) = _
    rcases List.mem_cons.mp h with e | e
    · subst e
      rw [hp]
    · rw [words_none e hp]
      cases wordN v <;> rfl
theorem words_len : ∀ {l : List (List Nat)} {qs : List T3}, wordsN l = some qs -> qs.length = l.length
  | [], qs, h => by cases h; rfl
  | v :: r, qs, h => by
    have h' : (match wordN v, wordsN r with | some t, some ts => some (t :: ts) | _, _ => none) = some qs := h
    cases e1 : wordN v with
    | none => rw [e1] at h'; cases h'
    | some a =>
      cases e2 : wordsN r with
      | none => rw [e1, e2] at h'; cases h'
      | some as =>
        rw [e1, e2] at h'
        cases h'
        rw [List.length_cons, List.length_cons, words_len e2]
theorem up_at : ∀ {L : List T3}, upN3 L = true ↔ ∀ (i : Nat) (a b : T3), L[i]? = some a -> L[i + 1]? = some b -> keyLt a b
  | [] => by simp [upN3]
  | [x] => by
    refine ⟨fun _ i a b h1 h2 => ?_, fun _ => rfl⟩
    cases i <;> simp at h2
  | x :: y :: r => by
    have ih := up_at (L := y :: r)
    have e : upN3 (x :: y :: r) = (decide (keyLt x y) && upN3 (y :: r)) := rfl
    rw [e, Bool.and_eq_true, decide_eq_true_eq, ih]
    constructor
    · rintro ⟨h0, h⟩ i a b h1 h2
      cases i with
      | zero => simp at h1 h2; rw [<- h1, <- h2]; exact h0
      | succ i => exact h i a b (by simpa using h1) (by simpa using h2)
    · intro h
      exact ⟨h 0 x y rfl rfl, fun i a b h1 h2 => h (i + 1) a b (by simpa using h1) (by simpa using h2)⟩
end My
namespace My
open PySem L2 PySem.NumText PyProof.Rows
def spPwText : Sp := fun vs H Q _ => ∃ (u : Nat) (k : Int), vs = [.str (mkS [u]), .int k] /\ 0 <= k /\ k <= 60 /\ ∀ H', Same H H' -> Q (.str (mkS (pwC u k))) H'
def spPText (K : W.Frag) : Sp := fun vs H Q _ => ∃ (v : V) (L : List T3), vs = [v] /\ PolyAt H v L /\ (∀ t ∈ L, TmOk t) /\ L.length <= 100 /\ ∀ H', Same H H' -> Q (.str (mkS (polyC L))) H'
theorem pw_zero (u : Nat) : pwC u 0 = [] := rfl
theorem pw_one (u : Nat) : pwC u 1 = [42, u] := rfl
theorem pw_more {u : Nat} {k : Int} (h0 : k ≠ 0) (h1 : k ≠ 1) : pwC u k = [42, u, 94] ++ decC k := by
  unfold pwC pwK
  rw [if_neg h0, if_neg h1]
  rfl
theorem int_dec (a b : Int) : decide (V.int a = V.int b) = decide (a = b) := by
  rw [decide_eq_decide]
  exact ⟨fun z => by injection z, fun z => by rw [z]⟩
theorem sum_len : ∀ {ws : List (List Nat)} {k : Nat}, (∀ w ∈ ws, w.length <= k) -> ((ws.map mkS).map (·.length)).sum <= ws.length * k
  | [], _, _ => Nat.zero_le _
  | w :: ws, k, h => by
    have h1 := h w (List.mem_cons_self ..)
    have ih := sum_len (ws := ws) (k := k) fun w hw => h w (List.mem_cons_of_mem _ hw)
    rw [List.map_cons, List.map_cons, List.sum_cons, mkS_len, List.length_cons, Nat.add_mul, Nat.one_mul, Nat.add_comm]
    exact Nat.add_le_add ih h1
section
variable {P : Program} {w : World} {K : W.Frag} {mg : Str -> Option Value} {base : Heap}
theorem scFac : FnScope ["_law_letter", "_law_k"] ["_law_letter", "_law_k"] (defScope sFactor) := ⟨rfl, rfl, rfl, by decide +kernel, rfl, by decide +kernel, by decide +kernel⟩
theorem d_factor (T2 : Tx26 mg) (S : Src K mg "_law_factor" sFactor ["_law_letter", "_law_k"]) : Def P w K mg base 1 "_law_factor" ["_law_letter", "_law_k"] spPwText := by
  refine S.def scFac (fun vs H Q E h => ?_) (fun f cdv A outer s H vs Q E hr h => ?_)
  · obtain ⟨_, _, rfl, _⟩ := h; rfl
  · obtain ⟨u, k, rfl, k0, k6, q⟩ := h
    refine ⟨_, pss_cons (ps_if (pt_cmpR op_eq (pv 1) pe_int (nomark _)) (pss_one (ps_ret pe_str)) pss_nil)
      (pss_cons (ps_if (pt_cmpR op_eq (pv 1) pe_int (nomark _)) (pss_one (ps_ret (pe_op op_add_str pe_str (pv 0)))) pss_nil)
      (pss_one (ps_ret (pe_op op_add_str (pe_op op_add_str (pe_op op_add_str pe_str (pv 0)) pe_str) (pe_callTy call_str_int rfl T2.str boot_str' (pa_cons (pv 1) pa_nil)))))), ?_⟩
    refine ⟨_, rfl, rfl, _, rfl, ?_⟩
    rw [int_dec]
    have g1 : ("*" : Str) ++ mkS [u] = mkS [42, u] := by rw [lit_star, mk_app]; rfl
    have g2 : mkS [42, u] ++ ("^" : Str) = mkS [42, u, 94] := by rw [lit_hat, mk_app]; rfl
    have b1 : ("*" : Str).length + (mkS [u]).length <= sizeLine := by rw [lit_star, mkS_len, mkS_len]; exact line_of (show 1 + 1 <= 100000 by decide)
    have b2 : (mkS [42, u]).length + ("^" : Str).length <= sizeLine := by rw [lit_hat, mkS_len, mkS_len]; exact line_of (show 2 + 1 <= 100000 by decide)
    by_cases z : k = 0
    · rw [decide_eq_true z]
      subst z
      rw [pw_zero] at q
      refine iteT ?_
      show Q (.str "") H
      rw [lit_none]
      exact q H (Same.refl _)
    · rw [decide_eq_false z]
      refine iteF ⟨_, rfl, rfl, _, rfl, ?_⟩
      rw [int_dec]
      by_cases y : k = 1
      · rw [decide_eq_true y]
        subst y
        rw [pw_one] at q
        refine iteT ⟨_, rfl, _, _, rfl, rfl, b1, ?_⟩
        rw [g1]
        exact q H (Same.refl _)
      · rw [decide_eq_false y]
        have kb := small60 k0 k6
        have kl := pwC_len (u := u) k0 k6
        refine iteF ⟨_, rfl, _, _, rfl, rfl, b1, ?_⟩
        rw [g1]
        refine ⟨_, _, rfl, rfl, b2, ?_⟩
        rw [g2]
        have ed : (toString k : Str) = mkS (decC k) := dec_str _
        refine ⟨_, rfl, k, rfl, log_small kb, _, _, rfl, rfl, ?_, ?_⟩
        · rw [ed, mkS_len, mkS_len]
          rw [pw_more z y, List.length_append] at kl
          exact line_of (by lia)
        rw [ed, mk_app, <- pw_more z y]
        exact q H (Same.refl _)
theorem scLT : FnScope ["_law_poly"] ["_law_poly"] (defScope sText) := ⟨rfl, rfl, rfl, by decide +kernel, rfl, by decide +kernel, by decide +kernel⟩
theorem ndlijt : (["_law_i", "_law_j", "_law_times"] : List Str).Nodup := by decide +kernel
theorem d_ltext (T2 : Tx26 mg) (S : Src K mg "_law_text" sText ["_law_poly"]) (DP : Def P w K mg base 1 "_law_factor" ["_law_letter", "_law_k"] spPwText) : Def P w K mg base 2 "_law_text" ["_law_poly"] (spPText K) := by
  refine S.def scLT (fun vs H Q E h => ?_) (fun f cdv A outer s H vs Q E hr h => ?_)
  · obtain ⟨_, _, rfl, _⟩ := h; rfl
  · obtain ⟨v, L, rfl, pa, ok, l100, q⟩ := h
    obtain ⟨c, rs, rfl, hc0, ht0⟩ := pa.ex
    have rl : rs.length = L.length := Paired.length ht0
    refine ⟨_, pss_cons (ps_if (pt_cmpR (op_eqNilT (units66 hr)) (pv 0) (pe_tup pa_nil) (nomark _)) (pss_one (ps_ret pe_str)) pss_nil)
      (pss_one (ps_ret (pe_bm PySem.F.plainAttrs_str PySem.F.slot_str_join PySem.F.type_str_join mt_join pe_str (pa_cons (pe_comp (N' := ["_law_i", "_law_j", "_law_times"]) (fr := [none, none, none]) (compOk_of (by rfl)) rfl (pi_seqK K .t (pv 0))
        (g := gTup K 3 (gCons (gName 0) (gCons (gName 1) (gCons (gName 2) gNil)))) (fun _ _ _ _ => pg_tupK K 3 rfl (pgs_cons (pg_name (i := 0) ndlijt rfl (Or.inl rfl) (Or.inr rfl)) (pgs_cons (pg_name (i := 1) ndlijt rfl (Or.inl rfl) (Or.inr rfl)) (pgs_cons (pg_name (i := 2) ndlijt rfl (Or.inl rfl) (Or.inr rfl)) pgs_nil))))
        (fun _ _ _ _ => pifs_nil) (fun _ _ _ _ => pe_op op_add_str (pe_op op_add_str (pe_callTy call_str_int rfl T2.str boot_str' (pa_cons (pv 2) pa_nil)) (pe_def DP hr rfl (pa_cons pe_str (pa_cons (pv 0) pa_nil)))) (pe_def DP hr rfl (pa_cons pe_str (pa_cons (pv 1) pa_nil))))) pa_nil)))), ?_⟩
    refine ⟨_, rfl, Nat.zero_le _, fun e0 he0 => ?_⟩
    have s0 := Same.new (o := HO.tup []) he0
    have hc := s0 _ _ hc0
    have ht := terms_same ht0 s0
    refine ⟨c, e0, rs, rfl, rfl, SqT.of hc, SqT.of upd_same, _, rfl, ?_⟩
    generalize upd H e0 (.tup []) = H0 at s0 hc ht ⊢
    cases L with
    | nil =>
      have e : rs = [] := List.length_eq_zero_iff.mp rl
      rw [decide_eq_true e]
      refine iteT ?_
      show Q (.str "0") H0
      rw [lit_zero]
      exact q H0 s0
    | cons t0 L0 =>
      have e : ¬ rs = [] := fun z => by rw [z] at rl; cases rl
      rw [decide_eq_false e]
      generalize hL : t0 :: L0 = L at ht ok l100 q rl
      have Lne : L ≠ [] := by rw [<- hL]; simp
      refine iteF ⟨rfl, _, rfl, c, rfl, ⟨_, SqT.of hc⟩, comp_seq (k := .t) (a := c) (xs := rs) (fun σ => ∃ u v r, σ = [u, v, r]) (fun i ys H' => Same H0 H' /\ ys = ((L.take i).map tmC).map fun l => V.str (mkS l)) ⟨_, _, _, rfl⟩ ⟨Same.refl _, rfl⟩ (by rw [rl]; exact lt_line (by lia)) (fun i ys H' _ z => SqT.of (z.1 _ _ hc)) ?_ ?_⟩
      · rintro i x ys σ H2 N hx ⟨u, v, r, rfl⟩ ⟨sm, rfl⟩ hN
        obtain ⟨t, et, b, rfl, hb⟩ := Paired.at ht hx
        have tk := ok t (List.mem_of_getElem? et)
        refine ⟨b, _, rfl, SqT.of (sm _ _ hb), rfl, _, _, rfl, _, _, rfl, _, _, rfl, rfl, ?_⟩
        dsimp only [gName, List.set]
        have l1 := dec_len' tk.ab
        have l2 := pwC_len (u := 120) tk.i0 tk.i6
        have l3 := pwC_len (u := 121) tk.j0 tk.j6
        have ed : (toString t.2.2 : Str) = mkS (decC t.2.2) := dec_str _
        refine yesT ⟨_, rfl, _, rfl, log_small tk.ab, _, rfl, 120, t.1, by rw [lit_x]; rfl, tk.i0, tk.i6, fun H3 s3 => ?_⟩
        refine ⟨_, _, rfl, rfl, ?_, _, rfl, 121, t.2.1, by rw [lit_y]; rfl, tk.j0, tk.j6, fun H4 s4 => ?_⟩
        · rw [ed, mkS_len, mkS_len]; exact line_of (by lia)
        rw [ed, mk_app]
        refine ⟨_, _, rfl, rfl, ?_, ?_⟩
        · rw [mkS_len, mkS_len, List.length_append]; exact line_of (by lia)
        rw [mk_app]
        refine hN _ _ _ ⟨_, _, _, rfl⟩ ⟨sm.trans (s3.trans s4), ?_⟩ (by simp)
        rw [take_succ_of et, List.map_append, List.map_append]
        rfl
      · rintro ys H2 ⟨sm, rfl⟩ p hp
        rw [rl, List.take_length]
        refine ⟨" + ", p, (L.map tmC).map mkS, rfl, rfl, SqL.of (by rw [upd_same, List.map_map (g := V.str)]; rfl), ?_, ?_⟩
        · have a1 := sum_len (ws := L.map tmC) (k := 71) fun w hw => by
            obtain ⟨t, ht, rfl⟩ := List.mem_map.mp hw
            exact tm_len (ok t ht)
          rw [List.length_map] at a1
          rw [List.length_map, List.length_map, lit_plus, mkS_len]
          show _ + L.length * 3 <= 16777216
          lia
        · rw [join3 (by decide +kernel) (fun z => Lne (List.map_eq_nil_iff.mp z))]
          have e : polyC L = glue3 (L.map tmC) := if_neg Lne
          rw [<- e]
          exact q _ (s0.trans (sm.trans (Same.new hp)))
end
end My
namespace My
open PySem L2 PySem.NumText PyProof.Rows
def spAboveQ (C : Addr) : Sp := fun vs H Q E => ∃ w : List Nat, vs = [.str (mkS w)] /\ Asc w /\ (∀ n H', numN 60 w = some n -> Same H H' -> Q (.int n) H') /\ (∀ H', numN 60 w = none -> Same H H' -> E (.ref C) none H')
def spTimesQ (C : Addr) : Sp := fun vs H Q E => ∃ w : List Nat, vs = [.str (mkS w)] /\ Asc w /\ (∀ n H', timesN w = some n -> Same H H' -> Q (.int n) H') /\ (∀ H', timesN w = none -> Same H H' -> E (.ref C) none H')
def spPowQ (C : Addr) : Sp := fun vs H Q E => ∃ w : List Nat, vs = [.str (mkS w)] /\ Asc w /\ (∀ n H', pwN w = some n -> Same H H' -> Q (.int n) H') /\ (∀ H', pwN w = none -> Same H H' -> E (.ref C) none H')
theorem num_no {most : Nat} {w : List Nat} (h : ¬ (1 <= w.length /\ w.length <= most) \/ w.head? = some 48 \/ w.all isFig = false) : numN most w = none := by
  unfold numN
  rw [if_neg]
  intro z
  obtain ⟨h1, h2, h3, h4⟩ := okN_of z
  rcases h with h | h | h
  · exact h ⟨h1, h2⟩
  · exact h3 h
  · rw [h4] at h; cases h
theorem num_yes {most : Nat} {w : List Nat} (h1 : 1 <= w.length) (h2 : w.length <= most) (h3 : w.head? ≠ some 48) (h4 : w.all isFig = true) : numN most w = some ((digitsVal w : Nat) : Int) := by
  unfold numN
  rw [if_pos]
  unfold okN
  simp [h1, h2, h3, h4]
section
variable {P : Program} {w : World} {K : W.Frag} {mg : Str -> Option Value} {base : Heap}
theorem scAbove : FnScope ["word"] ["word"] (defScope sRAbove) := ⟨rfl, rfl, rfl, by decide +kernel, rfl, by decide +kernel, by decide +kernel⟩
theorem nd1s : (["sign"] : List Str).Nodup := by decide +kernel
theorem d_aboveQ {C : Addr} {bm : List Value} (T : TxP mg) (T2 : Tx26 mg) (hm : mg "NoText" = some (.ref C)) (hc : excB K C bm = true) (S : Src K mg "read_above_nought" sRAbove ["word"]) : DefQ P w K mg base 1 "read_above_nought" ["word"] (spAboveQ C) := by
  refine Src.defQ S scAbove (fun vs H Q E h => ?_) (fun f cdv A outer s H vs Q E hr h => ?_)
  · obtain ⟨_, rfl, _⟩ := h; rfl
  · obtain ⟨l, rfl, as, q, qe⟩ := h
    obtain ⟨tf, fig⟩ := T2.fig
    obtain ⟨tm, mfig⟩ := T2.mfig
    refine ⟨_, pss_cons (ps_if (pt_not (pt_chain op_le op_le pe_int (pe_callB call_len_str (by rfl) T.len PySem.boot_len (pa_cons (pv 0) pa_nil)) (pe_glob (v := .int 60) rfl mfig ⟨_, rfl⟩))) (pss_one (ps_raiseQ rfl hm hc (pa_cons (pe_joined (pj_cons pe_str (pj_cons (pe_fint (pe_glob (v := .int 60) rfl mfig ⟨_, rfl⟩)) (pj_cons pe_str pj_nil)))) pa_nil))) pss_nil)
      (pss_cons (ps_if (PW.pt (pw_or (pt_cmpR op_eq (pe_ix ix_str (pv 0) pe_int (fun _ _ => rfl)) pe_str (nomark _)) (pw_or1 (pt_not (pt_val (pe_callB (call_all rfl) (by rfl) T2.all boot_all6' (pa_cons (pe_comp (N' := ["sign"]) (fr := [none]) (compOk_of (by rfl)) rfl (pi_str (pv 0))
          (fun _ _ _ _ => pg_name (i := 0) nd1s rfl (Or.inl rfl) (Or.inr rfl)) (fun _ _ _ _ => pifs_nil)
          (fun _ _ _ _ => pe_cmpR op_in_str (pv 0) (pe_glob (v := .str "0123456789") rfl fig ⟨_, rfl⟩) rfl)) pa_nil))))))) (pss_one (ps_raiseQ rfl hm hc (pa_cons pe_str pa_nil))) pss_nil)
      (pss_one (ps_ret (pe_callTy call_intS rfl T.int boot_int' (pa_cons (pv 0) pa_nil))))), ?_⟩
    have L' : (mkS l).length = l.length := mkS_len _
    refine ⟨_, rfl, _, rfl, as.len, _, _, rfl, rfl, _, rfl, ?_⟩
    rw [L']
    by_cases h1 : 1 <= l.length
    · rw [decide_eq_true (show (1 : Int) <= (l.length : Int) by lia)]
      refine iteT ⟨_, _, rfl, rfl, _, rfl, ?_⟩
      by_cases h60 : l.length <= 60
      · rw [decide_eq_true (show (l.length : Int) <= 60 by lia)]
        refine iteF ?_
        obtain ⟨c, r, ec⟩ : ∃ c r, l = c :: r := by cases l with | nil => exact absurd h1 (by decide) | cons c r => exact ⟨c, r, rfl⟩
        refine ⟨_, rfl, _, 0, c, rfl, rfl, as.len, by rw [mkS_list, ec]; exact atI_nat (j := 0) rfl, rfl, _, rfl, ?_⟩
        rw [lit_zero, show (⟨#[c]⟩ : Str) = mkS [c] from rfl, strs_dec]
        by_cases c48 : c = 48
        · rw [decide_eq_true (show [c] = [48] by rw [c48])]
          exact iteT (iteT ⟨by show 1 <= 100; decide, qe H (num_no (.inr (.inl (by rw [ec, c48]; rfl)))) (Same.refl H)⟩)
        · rw [decide_eq_false (show ¬ [c] = [48] by intro z; exact c48 (List.cons.inj z).1)]
          refine iteF ?_
          refine ⟨_, rfl, _, rfl, as.all, comp_str (z := mkS l) (fun σ => ∃ v, σ = [v]) (fun j ys H' => H' = H /\ ys = (l.take j).map fun c => V.bl (isFig c)) ⟨_, rfl⟩ ⟨rfl, rfl⟩ (by rw [mkS_size]; exact as.lt) ?_ ?_⟩
          · rintro j c ys σ H' N hc ⟨u, rfl⟩ ⟨rfl, rfl⟩ hN
            dsimp only [gName, List.set]
            refine yesT ?_
            have hc' : l[j]? = some c := by
              have : (mkS l).cps.toList[j]? = some c := by simpa using hc
              rwa [mkS_list] at this
            refine ⟨_, rfl, _, _, rfl, rfl, ?_⟩
            rw [StrLaws.found_one, fig_mem]
            refine hN _ _ _ ⟨_, rfl⟩ ⟨rfl, ?_⟩ (by simp)
            rw [take_succ_of hc', List.map_append]
            rfl
          · rintro ys H' ⟨rfl, rfl⟩ r' hr'
            rw [mkS_size, List.take_length]
            refine ⟨r', l.map isFig, rfl, SqL.of (by rw [upd_same, List.map_map]; rfl), ?_⟩
            have s2 := Same.new (o := HO.lst (l.map fun c => V.bl (isFig c))) hr'
            generalize upd H' r' (HO.lst (l.map fun c => V.bl (isFig c))) = H2 at s2 ⊢
            refine ⟨_, rfl, ?_⟩
            have ea : (l.map isFig).all id = l.all isFig := by rw [List.all_map]; rfl
            rw [ea]
            cases hf : l.all isFig with
            | false => exact iteT ⟨by show 1 <= 100; decide, qe _ (num_no (.inr (.inr hf))) s2⟩
            | true =>
              refine iteF ⟨_, rfl, _, _, rfl, figs_int hf h1 (by lia), by rw [L']; lia, q _ _ (num_yes h1 h60 (by rw [ec]; simpa using c48) hf) s2⟩
      · rw [decide_eq_false (show ¬ (l.length : Int) <= 60 by lia)]
        exact iteT ⟨_, rfl, by decide +kernel, 60, rfl, by decide +kernel, _, rfl, by decide +kernel, _, rfl, by decide +kernel, by decide +kernel, by show 1 <= 100; decide, qe H (num_no (.inl fun z => h60 z.2)) (Same.refl H)⟩
    · rw [decide_eq_false (show ¬ (1 : Int) <= (l.length : Int) by lia)]
      exact iteF ⟨_, rfl, iteT ⟨_, rfl, by decide +kernel, 60, rfl, by decide +kernel, _, rfl, by decide +kernel, _, rfl, by decide +kernel, by decide +kernel, by show 1 <= 100; decide, qe H (num_no (.inl fun z => h1 z.1)) (Same.refl H)⟩⟩
theorem scTimes : FnScope ["word"] ["word"] (defScope sRTimes) := ⟨rfl, rfl, rfl, by decide +kernel, rfl, by decide +kernel, by decide +kernel⟩
theorem drop_tail {c : Nat} {l : List Nat} (h : l.head? = some c) : l.drop 1 = l.tail := by cases l with | nil => cases h | cons a r => rfl
theorem d_timesQ {C : Addr} (S : Src K mg "read_times" sRTimes ["word"]) (DA : DefQ P w K mg base 1 "read_above_nought" ["word"] (spAboveQ C)) : DefQ P w K mg base 2 "read_times" ["word"] (spTimesQ C) := by
  refine Src.defQ S scTimes (fun vs H Q E h => ?_) (fun f cdv A outer s H vs Q E hr h => ?_)
  · obtain ⟨_, rfl, _⟩ := h; rfl
  · obtain ⟨l, rfl, as, q, qe⟩ := h
    refine ⟨_, pss_cons (ps_if (pt_val (pe_bm PySem.F.plainAttrs_str PySem.F.slot_str_startswith PySem.F.type_str_startswith mt_starts (pv 0) (pa_cons pe_str pa_nil)))
        (pss_one (ps_ret (pe_un un_neg (pe_defPQ DA hr rfl (pa_cons (pe_slice sl_str (pv 0) (po_some pe_int) po_none) pa_nil))))) pss_nil)
      (pss_one (ps_ret (pe_defPQ DA hr rfl (pa_cons (pv 0) pa_nil)))), ?_⟩
    refine ⟨_, rfl, rfl, _, _, rfl, rfl, _, rfl, ?_⟩
    rw [lit_dash, starts_one]
    by_cases h : l.head? = some 45
    · rw [show (l.head? == some 45) = true from by rw [h]; rfl]
      have te : timesN l = (numN 60 l.tail).map fun n => -n := if_pos h
      refine iteT ⟨_, rfl, _, rfl, _, rfl, as.len, ?_⟩
      rw [show (some (1 : Int)) = some ((1 : Nat) : Int) from rfl, slice_from, drop_tail h]
      refine ⟨l.tail, rfl, by rw [<- drop_tail h]; exact as.drop 1, fun n H' hn s' => ⟨_, rfl, q _ H' (by rw [te, hn]; rfl) s'⟩, fun H' hn s' => qe H' (by rw [te, hn]; rfl) s'⟩
    · rw [show (l.head? == some 45) = false from by simpa using h]
      have te : timesN l = numN 60 l := if_neg h
      exact iteF ⟨_, rfl, l, rfl, as, fun n H' hn s' => q n H' (by rw [te, hn]) s', fun H' hn s' => qe H' (by rw [te, hn]) s'⟩
theorem scRPow : FnScope ["word", "power"] ["word"] (defScope sRPower) := ⟨rfl, rfl, rfl, by decide +kernel, rfl, by decide +kernel, by decide +kernel⟩
theorem d_powQ {C : Addr} {bm : List Value} (T2 : Tx26 mg) (hm : mg "NoText" = some (.ref C)) (hc : excB K C bm = true) (S : Src K mg "read_power" sRPower ["word"]) (DA : DefQ P w K mg base 1 "read_above_nought" ["word"] (spAboveQ C)) : DefQ P w K mg base 2 "read_power" ["word"] (spPowQ C) := by
  refine Src.defQ S scRPow (fun vs H Q E h => ?_) (fun f cdv A outer s H vs Q E hr h => ?_)
  · obtain ⟨_, rfl, _⟩ := h; rfl
  · obtain ⟨l, rfl, as, q, qe⟩ := h
    obtain ⟨tm, mpow⟩ := T2.mpow
    refine ⟨_, pss_cons (ps_if (pt_cmpR op_eq (pv 0) pe_str (nomark _)) (pss_one (ps_ret pe_int)) pss_nil)
      (pss_cons (ps_if (pt_not (pt_val (pe_bm PySem.F.plainAttrs_str PySem.F.slot_str_startswith PySem.F.type_str_startswith mt_starts (pv 0) (pa_cons pe_str pa_nil)))) (pss_one (ps_raiseQ rfl hm hc (pa_cons pe_str pa_nil))) pss_nil)
      (pss_cons (ps_set (i := 1) scRPow.nd rfl (Or.inl rfl) (pe_defPQ DA hr rfl (pa_cons (pe_slice sl_str (pv 0) (po_some pe_int) po_none) pa_nil)))
      (pss_cons (ps_if (pt_not (pt_chain op_le op_le pe_int (pv 1) (pe_glob (v := .int 60) rfl mpow ⟨_, rfl⟩))) (pss_one (ps_raiseQ rfl hm hc (pa_cons (pe_joined (pj_cons pe_str (pj_cons (pe_fint (pe_glob (v := .int 60) rfl mpow ⟨_, rfl⟩)) pj_nil))) pa_nil))) pss_nil)
      (pss_one (ps_ret (pv 1)))))), ?_⟩
    refine ⟨_, rfl, rfl, _, rfl, ?_⟩
    rw [lit_none, strs_dec]
    cases l with
    | nil => exact iteT (q 1 H rfl (Same.refl _))
    | cons c r =>
      rw [decide_eq_false (show ¬ (c :: r) = [] from List.cons_ne_nil _ _)]
      refine iteF ?_
      refine ⟨_, rfl, rfl, _, _, rfl, rfl, _, rfl, ?_⟩
      rw [lit_hat, starts_one]
      by_cases hc94 : c = 94
      · have pe : pwN (c :: r) = inP (numN 60 r) := if_pos hc94
        rw [show ((c :: r).head? == some 94) = true from by rw [hc94]; rfl]
        refine iteF ?_
        refine ⟨_, rfl, _, rfl, _, rfl, as.len, ?_⟩
        rw [show (some (1 : Int)) = some ((1 : Nat) : Int) from rfl, slice_from, List.drop_one, List.tail_cons]
        refine ⟨r, rfl, as.drop 1, fun n H' hn s' => ?_, fun H' hn s' => qe H' (by rw [pe, hn]; rfl) s'⟩
        dsimp only [gName, List.set]
        refine ⟨_, rfl, _, _, rfl, rfl, _, rfl, ?_⟩
        have ine : inP (numN 60 r) = if 2 <= n /\ n <= 60 then some n else none := by rw [hn]; rfl
        by_cases h2 : 2 <= n
        · rw [decide_eq_true h2]
          refine iteT ⟨_, _, rfl, rfl, _, rfl, ?_⟩
          by_cases h6 : n <= 60
          · rw [decide_eq_true h6]
            exact iteF ⟨_, rfl, q n H' (by rw [pe, ine, if_pos ⟨h2, h6⟩]) s'⟩
          · rw [decide_eq_false h6]
            exact iteT ⟨_, rfl, by decide +kernel, 60, rfl, by decide +kernel, _, rfl, by decide +kernel, by decide +kernel, by show 1 <= 100; decide, qe H' (by rw [pe, ine, if_neg fun z => h6 z.2]) s'⟩
        · rw [decide_eq_false h2]
          exact iteF ⟨_, rfl, iteT ⟨_, rfl, by decide +kernel, 60, rfl, by decide +kernel, _, rfl, by decide +kernel, by decide +kernel, by show 1 <= 100; decide, qe H' (by rw [pe, ine, if_neg fun z => h2 z.1]) s'⟩⟩
      · have pe : pwN (c :: r) = none := if_neg hc94
        rw [show ((c :: r).head? == some 94) = false from by simpa using hc94]
        exact iteT ⟨by show 1 <= 100; decide, qe H pe (Same.refl H)⟩
end
end My
namespace My
open PySem L2 PySem.NumText PyProof.Rows
def stepN (fs : List (List Nat)) (u : Nat) (st : Nat × List Int) : Option (Nat × List Int) := match fs[st.1]? with
  | some f => if f.head? = some u then (pwN f.tail).map fun k => (st.1 + 1, st.2 ++ [k]) else some (st.1, st.2 ++ [0])
  | none => some (st.1, st.2 ++ [0])
def runN (fs : List (List Nat)) : Nat -> Option (Nat × List Int)
  | 0 => some (1, [])
  | 1 => stepN fs 120 (1, [])
  | _ + 2 => (stepN fs 120 (1, [])).bind (stepN fs 121)
theorem run_len {fs : List (List Nat)} {i : Nat} {st : Nat × List Int} (hi : i <= 2) (h : runN fs i = some st) : st.1 <= i + 1 /\ st.2.length = i := by
  have step : ∀ {u : Nat} {a b : Nat × List Int}, stepN fs u a = some b -> b.1 <= a.1 + 1 /\ b.2.length = a.2.length + 1 := fun {u a b} h => by
    unfold stepN at h
    split at h
    · split at h
      · obtain ⟨k, _, e⟩ := Option.map_eq_some_iff.mp h
        rw [<- e]
        exact ⟨Nat.le_refl _, by rw [List.length_append]; rfl⟩
      · cases h
        exact ⟨Nat.le_succ _, by rw [List.length_append]; rfl⟩
    · cases h
      exact ⟨Nat.le_succ _, by rw [List.length_append]; rfl⟩
  match i, hi with
  | 0, _ => cases h; exact ⟨Nat.le_refl _, rfl⟩
  | 1, _ =>
    have := step h
    exact ⟨this.1, by rw [this.2]; rfl⟩
  | 2, _ =>
    obtain ⟨a, e1, e2⟩ := Option.bind_eq_some_iff.mp h
    have h1 := step e1
    have h2 := step e2
    have h11 : a.1 <= 2 := h1.1
    exact ⟨by lia, by rw [h2.2, h1.2]; rfl⟩
theorem term_run {f : List Nat} {fs : List (List Nat)} {t : Int} (ht : timesN f = some t) : termN (f :: fs) = (runN (f :: fs) 2).bind fun st => if st.1 < (f :: fs).length then none else some (st.2.getD 0 0, st.2.getD 1 0, t) := by
  rcases fs with _ | ⟨a, _ | ⟨b, _ | ⟨c, r⟩⟩⟩
  · simp [termN, ht, runN, stepN]
  · by_cases ha : a.head? = some 120
    · cases hp : pwN a.tail <;> simp [termN, ht, runN, stepN, ha, hp]
    · by_cases hb : a.head? = some 121
      · cases hp : pwN a.tail <;> simp [termN, ht, runN, stepN, ha, hb, hp, facN]
      · simp [termN, ht, runN, stepN, ha, hb, facN]
  · by_cases ha : a.head? = some 120
    · cases hp : pwN a.tail with
      | none => simp [termN, ht, runN, stepN, ha, hp, facN]
      | some k =>
        by_cases hb : b.head? = some 121
        · cases hq : pwN b.tail <;> simp [termN, ht, runN, stepN, ha, hb, hp, hq, facN]
        · simp [termN, ht, runN, stepN, ha, hb, hp, facN]
    · by_cases hb : a.head? = some 121
      · cases hp : pwN a.tail <;> simp [termN, ht, runN, stepN, ha, hb, hp, facN]
      · simp [termN, ht, runN, stepN, ha, hb, facN]
  · by_cases ha : a.head? = some 120
    · cases hp : pwN a.tail with
      | none => simp [termN, ht, runN, stepN, ha, hp, facN]
      | some k =>
        by_cases hb : b.head? = some 121
        · cases hq : pwN b.tail <;> simp [termN, ht, runN, stepN, ha, hb, hp, hq, facN]
        · simp [termN, ht, runN, stepN, ha, hb, hp, facN]
    · by_cases hb : a.head? = some 121
      · cases hp : pwN a.tail <;> simp [termN, ht, runN, stepN, ha, hb, hp, facN]
      · simp [termN, ht, runN, stepN, ha, hb, facN]
theorem term_no {f : List Nat} {fs : List (List Nat)} (h : timesN f = none) : termN (f :: fs) = none := by
  rcases fs with _ | ⟨a, _ | ⟨b, _ | ⟨c, r⟩⟩⟩ <;> simp [termN, h]
def vsC (F : List (List Nat)) : List V := F.map fun l => V.str (mkS l)
theorem vs_get {F : List (List Nat)} {i : Nat} {w : List Nat} (h : F[i]? = some w) : (vsC F)[i]? = some (.str (mkS w)) := by
  unfold vsC
  rw [List.getElem?_map, h]
  rfl
theorem none_of {H G : Hp} {p : Addr} (s : Same H G) (h : G p = none) : H p = none := by
  cases z : H p with
  | none => rfl
  | some o => rw [s _ _ z] at h; cases h
def spTermQ (C : Addr) : Sp := fun vs H Q E => ∃ w : List Nat, vs = [.str (mkS w)] /\ Asc w /\ (∀ (t : T3) d H', wordN w = some t -> Same H H' -> H' d = some (.tup [.int t.1, .int t.2.1, .int t.2.2]) -> Q (.ref d) H') /\ (∀ H', wordN w = none -> Same H H' -> E (.ref C) none H')
theorem kind_star : Builtin.Str.strKind (mkS [42]) = 1 := by decide +kernel
theorem split_ok {l y : List Nat} (as : Asc l) : (splitP (mkS l) (mkS y)).length <= 100000 := by
  have := splitP_len (mkS l) (mkS y)
  rw [mkS_len] at this
  have := as.2
  lia
theorem split_vs (l y : List Nat) : (splitP (mkS l) (mkS y)).map V.str = vsC (splitC l y) := by
  rw [splitC_str, List.map_map]
  rfl
section
variable {P : Program} {w : World} {K : W.Frag} {mg : Str -> Option Value} {base : Heap}
theorem scRTerm : FnScope ["word", "factors", "times", "powers", "at", "unknown"] ["word"] (defScope sRTerm) := ⟨rfl, rfl, rfl, by decide +kernel, rfl, by decide +kernel, by decide +kernel⟩
theorem d_termQ {C : Addr} {bm : List Value} (T : TxP mg) (hm : mg "NoText" = some (.ref C)) (hc : excB K C bm = true) (S : Src K mg "read_term" sRTerm ["word"]) (DT : DefQ P w K mg base 2 "read_times" ["word"] (spTimesQ C)) (DP : DefQ P w K mg base 2 "read_power" ["word"] (spPowQ C)) : DefQ P w K mg base 3 "read_term" ["word"] (spTermQ C) := by
  refine Src.defQ S scRTerm (fun vs H Q E h => ?_) (fun f cdv A outer s H vs Q E hr h => ?_)
  · obtain ⟨_, rfl, _⟩ := h; rfl
  · obtain ⟨l, rfl, as, q, qe⟩ := h
    refine ⟨_, pss_cons (ps_set (i := 1) scRTerm.nd rfl (Or.inl rfl) (pe_bm PySem.F.plainAttrs_str PySem.F.slot_str_split PySem.F.type_str_split mt_splitG (pv 0) (pa_cons pe_str pa_nil)))
      (pss_cons (ps_set (i := 2) scRTerm.nd rfl (Or.inl rfl) (pe_defPQ DT hr rfl (pa_cons (pe_ix (ix_listK K) (pv 1) pe_int (fun _ _ => rfl)) pa_nil)))
      (pss_cons (ps_set (i := 3) scRTerm.nd rfl (Or.inl rfl) (pe_lst pa_nil))
      (pss_cons (ps_set (i := 4) scRTerm.nd rfl (Or.inl rfl) pe_int)
      (pss_cons (ps_for PassesOwn.leaving rfl (pi_seqK K .t (pe_tup (pa_cons pe_str (pa_cons pe_str pa_nil)))) (pg_name (i := 5) scRTerm.nd rfl (Or.inl rfl))
        (pss_one (ps_if (PW.pt (pw_and (pt_cmpR op_lt (pv 4) (pe_callB (call_lenK K) (by rfl) T.len PySem.boot_len (pa_cons (pv 1) pa_nil)) (nomark _)) (pw_and1 (pt_val (pe_bm PySem.F.plainAttrs_str PySem.F.slot_str_startswith PySem.F.type_str_startswith mt_starts (pe_ix (ix_listK K) (pv 1) (pv 4) (fun _ _ => rfl)) (pa_cons (pv 5) pa_nil))))))
          (pss_cons (ps_expr (pe_bm PySem.F.plainAttrs_list PySem.F.slot_list_append PySem.F.type_list_append mt_append (pv 3) (pa_cons (pe_defPQ DP hr rfl (pa_cons (pe_slice sl_str (pe_ix (ix_listK K) (pv 1) (pv 4) (fun _ _ => rfl)) (po_some pe_int) po_none) pa_nil)) pa_nil)))
            (pss_one (ps_set (i := 4) scRTerm.nd rfl (Or.inl rfl) (pe_op op_add (pv 4) pe_int))))
          (pss_one (ps_expr (pe_bm PySem.F.plainAttrs_list PySem.F.slot_list_append PySem.F.type_list_append mt_append (pv 3) (pa_cons pe_int pa_nil)))))))
      (pss_cons (ps_if (pt_cmpR op_lt (pv 4) (pe_callB (call_lenK K) (by rfl) T.len PySem.boot_len (pa_cons (pv 1) pa_nil)) (nomark _)) (pss_one (ps_raiseQ rfl hm hc (pa_cons pe_str pa_nil))) pss_nil)
      (pss_one (ps_ret (pe_tup (pa_cons (pe_ix (ix_listK K) (pv 3) pe_int (fun _ _ => rfl)) (pa_cons (pe_ix (ix_listK K) (pv 3) pe_int (fun _ _ => rfl)) (pa_cons (pv 2) pa_nil))))))))))), ?_⟩
    have wl := splitC_len l [42]
    obtain ⟨f0, fr, ef⟩ : ∃ f0 fr, splitC l [42] = f0 :: fr := by
      cases e : splitC l [42] with
      | nil => exact absurd e (splitC_ne _ _)
      | cons a r => exact ⟨a, r, rfl⟩
    have wN : wordN l = termN (splitC l [42]) := rfl
    have asc : ∀ (i : Nat) (f : List Nat), (splitC l [42])[i]? = some f -> Asc f := fun i f h => as.part (List.mem_of_getElem? h)
    have l9 := as.2
    refine ⟨_, rfl, rfl, _, _, splitP (mkS l) (mkS [42]), rfl, congrArg (fun z => [V.str z]) lit_star, kind_star, rfl, by rw [mkS_len]; lia, split_ok as, splitIs_P _ _, fun fl hfl => ?_⟩
    rw [split_vs]
    generalize splitC l [42] = fs at wl ef wN asc ⊢
    have s1 := Same.new (o := HO.lst (vsC fs)) hfl
    have h1 : (upd H fl (HO.lst (vsC fs))) fl = some (.lst (vsC fs)) := upd_same
    generalize upd H fl (HO.lst (vsC fs)) = H1 at s1 h1 ⊢
    dsimp only [gName, List.set]
    have i0 : fs[0]? = some f0 := by rw [ef]; rfl
    have vl : (vsC fs).length = fs.length := List.length_map ..
    refine ⟨_, rfl, fl, _, _, _, rfl, rfl, SqL.of h1, atI_nat (j := 0) (vs_get i0), f0, rfl, asc 0 f0 i0, fun n H2 hn s2 => ?_, fun H2 hn s2 => qe H2 (by rw [wN, ef]; exact term_no hn) (s1.trans s2)⟩
    have tr : wordN l = (runN fs 2).bind fun st => if st.1 < fs.length then none else some (st.2.getD 0 0, st.2.getD 1 0, n) := by rw [wN, ef]; exact term_run hn
    have h2 := s2 _ _ h1
    replace s2 := s1.trans s2
    dsimp only [gName, List.set]
    refine ⟨Nat.zero_le _, fun pl hpl => ?_⟩
    have npl : fl ≠ pl := ne_of_none h2 hpl
    have hplH : H pl = none := none_of s2 hpl
    have s3 := s2.trans (Same.new (o := HO.lst []) hpl)
    have h3 : (upd H2 pl (HO.lst [])) pl = some (.lst (([] : List Int).map V.int)) := upd_same
    have hf3 := Same.new (o := HO.lst []) hpl _ _ h2
    generalize upd H2 pl (HO.lst []) = H3 at s3 h3 hf3 ⊢
    dsimp only [gName, List.set]
    refine seq_abs fun M0 hM0 => hM0 _ _ ?_
    clear hM0 M0
    refine seq_abs fun M hM => ?_
    refine ⟨by show 2 <= sizeLine; decide, fun tt htt => ⟨tt, rfl, ⟨_, SqT.of upd_same⟩, ?_⟩⟩
    have ntp : tt ≠ pl := fun z => by rw [z, h3] at htt; cases htt
    have s4 := Same.new (o := HO.tup [V.str "x", V.str "y"]) htt
    have h4 : (upd H3 tt (.tup [V.str "x", V.str "y"])) tt = some (.tup [V.str "x", V.str "y"]) := upd_same
    replace hf3 := s4 _ _ hf3
    replace h3 := s4 _ _ h3
    replace s3 := s3.trans s4
    generalize upd H3 tt (.tup [V.str "x", V.str "y"]) = H4 at s3 h3 hf3 h4 ⊢
    clear s4
    refine for_seq (k := .t) (K := K) (a := tt) (xs := [V.str "x", V.str "y"]) (fun i σ H' => ∃ st : Nat × List Int, runN fs i = some st /\ (∃ u, σ = [some (.str (mkS l)), some (.ref fl), some (.int n), some (.ref pl), some (.int (st.1 : Int)), u]) /\ Same H H' /\ H' fl = some (.lst (vsC fs)) /\ H' tt = some (.tup [V.str "x", V.str "y"]) /\ H' pl = some (.lst (st.2.map V.int)))
      ⟨(1, []), rfl, ⟨_, rfl⟩, s3, hf3, h4, h3⟩ (fun i σ H' _ ⟨_, z⟩ => SqT.of z.2.2.2.2.1) ?_ ?_
    · rintro i x σ H5 hx ⟨st, rn, ⟨u5, rfl⟩, sm, hf5, ht5, hp5⟩
      obtain ⟨u, i2, rfl, hrun⟩ : ∃ u : Nat, i < 2 /\ x = .str (mkS [u]) /\ runN fs (i + 1) = (runN fs i).bind (stepN fs u) := by
        match i, hx with
        | 0, hx => exact ⟨120, by decide, by rw [<- lit_x]; exact (Option.some.inj hx).symm, rfl⟩
        | 1, hx => exact ⟨121, by decide, by rw [<- lit_y]; exact (Option.some.inj hx).symm, rfl⟩
        | i + 2, hx => cases hx
      rw [rn, Option.bind_some] at hrun
      obtain ⟨st1, st2⟩ := run_len (by lia) rn
      have keep : ∀ (v : Int) (H6 : Hp), Same H H6 -> H6 fl = some (.lst (vsC fs)) -> H6 tt = some (.tup [V.str "x", V.str "y"]) -> Same H (upd H6 pl (.lst (st.2.map V.int ++ [.int v]))) /\ (upd H6 pl (.lst (st.2.map V.int ++ [.int v]))) fl = some (.lst (vsC fs)) /\ (upd H6 pl (.lst (st.2.map V.int ++ [.int v]))) tt = some (.tup [V.str "x", V.str "y"]) := fun v H6 a b c => by
        refine ⟨fun b o e => ?_, ?_, ?_⟩
        · rw [upd_ne (ne_of_none e hplH)]
          exact a b o e
        · rw [upd_ne npl]; exact b
        · rw [upd_ne ntp]; exact c
      have none0 : stepN fs u st = some (st.1, st.2 ++ [0]) -> ∀ σ' : L2.St, (∃ w : Option V, σ' = [some (.str (mkS l)), some (.ref fl), some (.int n), some (.ref pl), some (.int (st.1 : Int)), w]) -> ∃ st' : Nat × List Int, runN fs (i + 1) = some st' /\ (∃ u, σ' = [some (.str (mkS l)), some (.ref fl), some (.int n), some (.ref pl), some (.int (st'.1 : Int)), u]) /\ Same H (upd H5 pl (.lst (st.2.map V.int ++ [.int 0]))) /\ (upd H5 pl (.lst (st.2.map V.int ++ [.int 0]))) fl = some (.lst (vsC fs)) /\ (upd H5 pl (.lst (st.2.map V.int ++ [.int 0]))) tt = some (.tup [V.str "x", V.str "y"]) /\ (upd H5 pl (.lst (st.2.map V.int ++ [.int 0]))) pl = some (.lst (st'.2.map V.int)) := fun e σ' hσ => by
        obtain ⟨a1, a2, a3⟩ := keep 0 H5 sm hf5 ht5
        refine ⟨(st.1, st.2 ++ [0]), by rw [hrun, e], hσ, a1, a2, a3, ?_⟩
        rw [upd_same, List.map_append]
        rfl
      dsimp only [gName, List.set]
      refine ⟨_, rfl, _, rfl, fl, _, rfl, .inl (SqL.of hf5), _, _, rfl, rfl, _, rfl, ?_⟩
      rw [vl]
      by_cases hlt : st.1 < fs.length
      · rw [decide_eq_true (show (st.1 : Int) < (fs.length : Int) by lia)]
        have fat : fs[st.1]? = some fs[st.1] := List.getElem?_eq_getElem hlt
        generalize fs[st.1] = fa at fat
        refine iteT ⟨_, rfl, _, rfl, fl, _, _, _, rfl, rfl, SqL.of hf5, atI_nat (vs_get fat), rfl, _, rfl, _, _, rfl, rfl, _, rfl, ?_⟩
        rw [starts_one]
        by_cases hu : fa.head? = some u
        · rw [show (fa.head? == some u) = true from by rw [hu]; simp]
          have se : stepN fs u st = (pwN fa.tail).map fun k => (st.1 + 1, st.2 ++ [k]) := by
            unfold stepN
            rw [fat]
            exact if_pos hu
          refine iteT ⟨_, rfl, .inl ⟨rfl, _, SqL.of hp5⟩, _, rfl, _, rfl, fl, _, _, _, rfl, rfl, SqL.of hf5, atI_nat (vs_get fat), _, rfl, _, rfl, (asc _ _ fat).len, ?_⟩
          rw [show (some (1 : Int)) = some ((1 : Nat) : Int) from rfl, slice_from, drop_tail hu]
          refine ⟨fa.tail, rfl, by rw [<- drop_tail hu]; exact (asc _ _ fat).drop 1, fun k H6 hk s6 => ?_, fun H6 hk s6 => qe H6 ?_ (sm.trans s6)⟩
          · refine ⟨pl, _, _, rfl, rfl, s6 _ _ hp5, ?_, ?_⟩
            · rw [List.length_map]; exact lt_line (by lia)
            obtain ⟨a1, a2, a3⟩ := keep k H6 (sm.trans s6) (s6 _ _ hf5) (s6 _ _ ht5)
            refine ⟨_, rfl, _, _, rfl, rfl, (st.1 + 1, st.2 ++ [k]), by rw [hrun, se, hk]; rfl, ⟨some (.str (mkS [u])), ?_⟩, a1, a2, a3, ?_⟩
            · rfl
            · rw [upd_same, List.map_append]; rfl
          · rw [tr]
            have z : runN fs (i + 1) = none := by rw [hrun, se, hk]; rfl
            match i, i2, z, rn with
            | 0, _, z, _ =>
              have z' : stepN fs 120 (1, []) = none := z
              show ((stepN fs 120 (1, [])).bind (stepN fs 121)).bind _ = none
              rw [z']
              rfl
            | 1, _, z, _ =>
              have z' : (stepN fs 120 (1, [])).bind (stepN fs 121) = none := z
              show ((stepN fs 120 (1, [])).bind (stepN fs 121)).bind _ = none
              rw [z']
              rfl
        · rw [show (fa.head? == some u) = false from by rw [beq_eq_false_iff_ne]; exact hu]
          refine iteF ⟨_, rfl, .inl ⟨rfl, _, SqL.of hp5⟩, pl, _, _, rfl, rfl, hp5, ?_, none0 ?_ _ ⟨_, rfl⟩⟩
          · rw [List.length_map]; exact lt_line (by lia)
          · unfold stepN
            rw [fat]
            exact if_neg hu
      · rw [decide_eq_false (show ¬ (st.1 : Int) < (fs.length : Int) by lia)]
        refine iteF (iteF ⟨_, rfl, .inl ⟨rfl, _, SqL.of hp5⟩, pl, _, _, rfl, rfl, hp5, ?_, none0 ?_ _ ⟨_, rfl⟩⟩)
        · rw [List.length_map]; exact lt_line (by lia)
        · unfold stepN
          rw [List.getElem?_eq_none (by lia)]
    · rintro σ H5 ⟨st, rn, ⟨u5, rfl⟩, sm, hf5, ht5, hp5⟩
      refine hM _ _ ?_
      clear hM M
      have rn' : runN fs 2 = some st := rn
      obtain ⟨st1, st2⟩ := run_len (Nat.le_refl 2) rn'
      rw [rn', Option.bind_some] at tr
      obtain ⟨k1, k2, e2⟩ : ∃ k1 k2, st.2 = [k1, k2] := by
        rcases hh : st.2 with _ | ⟨a, _ | ⟨b, _ | ⟨c, r⟩⟩⟩
        · rw [hh] at st2; cases st2
        · rw [hh] at st2; cases st2
        · exact ⟨a, b, rfl⟩
        · rw [hh] at st2; simp at st2
      rw [e2] at hp5 tr
      refine ⟨_, rfl, _, rfl, fl, _, rfl, .inl (SqL.of hf5), _, _, rfl, rfl, _, rfl, ?_⟩
      rw [vl]
      by_cases hlt : st.1 < fs.length
      · rw [decide_eq_true (show (st.1 : Int) < (fs.length : Int) by lia)]
        exact iteT ⟨by show 1 <= 100; decide, qe H5 (by rw [tr, if_pos hlt]) sm⟩
      · rw [decide_eq_false (show ¬ (st.1 : Int) < (fs.length : Int) by lia)]
        refine iteF ⟨_, rfl, pl, _, _, _, rfl, rfl, SqL.of hp5, atI_nat (j := 0) rfl, _, rfl, pl, _, _, _, rfl, rfl, SqL.of hp5, atI_nat (j := 1) rfl, _, rfl, by show 3 <= sizeLine; decide, fun d hd => ?_⟩
        exact q (k1, k2, n) d _ (by rw [tr, if_neg hlt]; rfl) (sm.trans (Same.new hd)) upd_same
end
end My
namespace My
open PySem L2 PySem.NumText PyProof.Rows
def Plain (K : W.Frag) (H : Hp) (x : V) : Prop := ∃ t, TyOf K H x t /\ ∀ C, t ≠ .ref C
theorem kit_str {K : W.Frag} {H : Hp} {x : V} {t : Value} (h : TyOf K H x t) (hn : ∀ C, t ≠ .ref C) (hs : ∀ z, x ≠ .str z) : PySem.W.kitOne K t (.type "str") = some false := by
  cases h with
  | str x => exact absurd rfl (hs _)
  | ins => exact absurd rfl (hn _)
  | _ => first | rfl | decide +kernel
def spPolyQ (K : W.Frag) (C : Addr) : Sp := fun vs H Q E => (∃ x, vs = [x] /\ Plain K H x /\ (∀ z, x ≠ .str z) /\ ∀ H', Same H H' -> E (.ref C) none H') \/
  ∃ z, vs = [.str (mkS z)] /\ Asc z /\ (∀ (L : List T3) v H', readN z = some L -> Same H H' -> PolyAt H' v L -> Q v H') /\ ∀ H', readN z = none -> Same H H' -> E (.ref C) none H'
theorem kind_sep' : Builtin.Str.strKind (mkS [32, 43, 32]) = 1 := by decide +kernel
section
variable {P : Program} {w : World} {K : W.Frag} {mg : Str -> Option Value} {base : Heap}
theorem pe_defC {X : Cx} {scope : Scope} {N' : List Str} {fp : List Addr} {C : Addr} {s : Shared} {H : Hp} {EX : XK} {k : Nat} {x : Str} {ps : List Str} {sp : Sp} {e : Expr} {es : List Expr} {t : TA} {p pos : Pos} (D : DefQ X.prog X.w X.K X.mg X.base k x ps sp) (hr : Room k X.A) (hg : Gl (cxCompX X scope N' fp C s H EX) x)
    (ha : PA (cxCompX X scope N' fp C s H EX) (e :: es) t) (hdb : (x == ("__debug__" : Str)) = false := by decide) (he : starEach (e :: es) (cxCompX X scope N' fp C s H EX).env = (false, eval e (cxCompX X scope N' fp C s H EX).env) :: starEach es (cxCompX X scope N' fp C s H EX).env := by rfl)
    (hpl : (backTo pos (starEach es (cxCompX X scope N' fp C s H EX).env)).any (·.1) = false := by rfl) : PE (cxCompX X scope N' fp C s H EX) (.Call (.Name x p) (e :: es) [] pos) (tCall sp [] EX t) := by
  obtain ⟨g, fd, F, b, m, kp⟩ := D.ex
  exact pe_call (X := cxCompX X scope N' fp C s H EX) F hr hg m kp b .nil passC ha hdb he hpl
theorem scRPoly : FnScope ["text", "words", "terms", "term", "behind"] ["text"] (defScope sRPoly) := ⟨rfl, rfl, rfl, by decide +kernel, rfl, by decide +kernel, by decide +kernel⟩
theorem ndw : (["word"] : List Str).Nodup := by decide +kernel
theorem d_polyQ {C : Addr} {bm : List Value} (T : TxP mg) (T2 : Tx26 mg) (hm : mg "NoText" = some (.ref C)) (hc : excB K C bm = true) (S : Src K mg "read_poly" sRPoly ["text"]) (DT : DefQ P w K mg base 3 "read_term" ["word"] (spTermQ C)) : DefQ P w K mg base 4 "read_poly" ["text"] (spPolyQ K C) := by
  refine Src.defQ S scRPoly (fun vs H Q E h => ?_) (fun f cdv A outer s H vs Q E hr h => ?_)
  · rcases h with ⟨_, rfl, _⟩ | ⟨_, rfl, _⟩ <;> rfl
  · obtain ⟨tm, mter⟩ := T2.mter
    refine ⟨_, pss_cons (ps_if (pt_not (pt_val (pe_callB (call_isiK K) (by rfl) T.isi boot_isi (pa_cons (pv 0) (pa_cons (pe_bltn (v := .ty "str") rfl T2.str boot_str' rfl) pa_nil))))) (pss_one (ps_raiseQ rfl hm hc (pa_cons pe_str pa_nil))) pss_nil)
      (pss_cons (ps_if (pt_cmpR op_eq (pv 0) pe_str (nomark _)) (pss_one (ps_ret (pe_tup pa_nil))) pss_nil)
      (pss_cons (ps_set (i := 1) scRPoly.nd rfl (Or.inl rfl) (pe_bm PySem.F.plainAttrs_str PySem.F.slot_str_split PySem.F.type_str_split mt_splitG (pv 0) (pa_cons pe_str pa_nil)))
      (pss_cons (ps_if (pt_cmpR op_gt (pe_callB (call_lenK K) (by rfl) T.len PySem.boot_len (pa_cons (pv 1) pa_nil)) (pe_glob (v := .int 100) rfl mter ⟨_, rfl⟩) (nomark _)) (pss_one (ps_raiseQ rfl hm hc (pa_cons (pe_joined (pj_cons pe_str (pj_cons (pe_fint (pe_glob (v := .int 100) rfl mter ⟨_, rfl⟩)) (pj_cons pe_str pj_nil)))) pa_nil))) pss_nil)
      (pss_cons (ps_setCompX (i := 2) scRPoly.nd rfl (Or.inl rfl) (N' := ["word"]) (fr := [none]) (compOk_of (by rfl)) (pi_seqK K .l (pv 1))
        (fun _ _ _ _ => pg_name (i := 0) ndw rfl (Or.inl rfl) (Or.inr rfl)) (fun _ _ _ _ => pifs_nil) (fun _ _ _ _ => pe_defC DT hr rfl (pa_cons (pv 0) pa_nil)))
      (pss_cons (ps_for PassesOwn.leaving rfl (pi_zip2 .l .l rfl T2.zip (pa_cons (pv 2) (pa_cons (pe_slice (sl_listK K) (pv 2) (po_some pe_int) po_none) pa_nil))) (pg_tupK K 2 rfl (pgs_cons (pg_name (i := 3) scRPoly.nd rfl (Or.inl rfl)) (pgs_cons (pg_name (i := 4) scRPoly.nd rfl (Or.inl rfl)) pgs_nil)))
        (pss_one (ps_if (pt_cmpR (op_geTK K (units66 hr)) (pe_slice (sl_tupK K) (pv 3) po_none (po_some pe_int)) (pe_slice (sl_tupK K) (pv 4) po_none (po_some pe_int)) (nomark _)) (pss_one (ps_raiseQ rfl hm hc (pa_cons pe_str pa_nil))) pss_nil)))
      (pss_one (ps_ret (pe_callTy (call_tuple_ofK K) rfl T.tuple boot_tuple' (pa_cons (pv 2) pa_nil))))))))), ?_⟩
    rcases h with ⟨x, rfl, ⟨ty, px, pn⟩, nx, q⟩ | ⟨z, rfl, as, q, qe⟩
    · exact ⟨_, rfl, _, _, _, _, _, rfl, rfl, px, kit_str px pn nx, _, rfl, iteT ⟨by show 1 <= 100; decide, q H (Same.refl H)⟩⟩
    · refine ⟨_, rfl, _, _, _, _, _, rfl, rfl, .str _, k_str K, _, rfl, iteF ?_⟩
      refine ⟨_, rfl, rfl, _, rfl, ?_⟩
      rw [lit_zero, strs_dec]
      by_cases h0 : z = [48]
      · rw [decide_eq_true h0]
        refine iteT ⟨Nat.zero_le _, fun c hc => ?_⟩
        exact q [] (.ref c) _ (if_pos h0) (Same.new hc) ⟨c, [], rfl, upd_same, .nil⟩
      rw [decide_eq_false h0]
      refine iteF ?_
      have z9 := as.2
      have wl := splitC_len z [32, 43, 32]
      have wne := splitC_ne z [32, 43, 32]
      have asc : ∀ p ∈ splitC z [32, 43, 32], Asc p := fun p hp => as.part hp
      have rd : readN z = if (splitC z [32, 43, 32]).length <= 100 then (match wordsN (splitC z [32, 43, 32]) with | some L => if upN3 L = true then some L else none | none => none) else none := if_neg h0
      refine ⟨_, rfl, rfl, _, _, splitP (mkS z) (mkS [32, 43, 32]), rfl, congrArg (fun z => [V.str z]) lit_plus, kind_sep', rfl, by rw [mkS_len]; lia, split_ok as, splitIs_P _ _, fun wa hwa => ?_⟩
      rw [split_vs]
      generalize splitC z [32, 43, 32] = ws at wl wne asc rd ⊢
      have s1 := Same.new (o := HO.lst (vsC ws)) hwa
      have h1 : (upd H wa (HO.lst (vsC ws))) wa = some (.lst (vsC ws)) := upd_same
      generalize upd H wa (HO.lst (vsC ws)) = H1 at s1 h1 ⊢
      dsimp only [gName, List.set]
      have vl : (vsC ws).length = ws.length := List.length_map ..
      refine ⟨_, rfl, wa, _, rfl, .inl (SqL.of h1), _, _, rfl, rfl, _, rfl, ?_⟩
      rw [vl]
      by_cases h100 : ws.length <= 100
      · rw [decide_eq_false (show ¬ (100 : Int) < (ws.length : Int) by lia)]
        refine iteF ?_
        rw [if_pos h100] at rd
        refine ⟨_, rfl, wa, rfl, ⟨_, SqL.of h1⟩, comp_seq (k := .l) (a := wa) (xs := vsC ws) (fun σ => ∃ v, σ = [v]) (fun i ys H5 => Same H1 H5 /\ ∃ qs, wordsN (ws.take i) = some qs /\ Paired (TermAt H5) ys qs) ⟨_, rfl⟩ ⟨Same.refl _, [], rfl, .nil⟩ (by rw [vl]; exact lt_line (by lia)) (fun i ys H5 _ z => SqL.of (z.1 _ _ h1)) ?_ ?_⟩
        · rintro j v ys σ H5 N hx ⟨u, rfl⟩ ⟨sm, qs, hqs, hy⟩ hN
          unfold vsC at hx
          rw [List.getElem?_map] at hx
          cases ew : ws[j]? with
          | none => rw [ew] at hx; cases hx
          | some wj =>
            rw [ew] at hx
            cases hx
            have mj : wj ∈ ws := List.mem_of_getElem? ew
            dsimp only [gName, List.set]
            refine yesT ?_
            refine ⟨_, rfl, wj, rfl, asc wj mj, fun p d H6 hp s6 hd => ?_, fun H6 hp s6 => qe H6 (by rw [rd, words_none mj hp]) ((s1.trans sm).trans s6)⟩
            refine hN _ _ _ ⟨_, rfl⟩ ⟨sm.trans s6, qs ++ [p], ?_, L2.Paired.snoc (terms_same hy s6) ⟨d, rfl, hd⟩⟩ (by simp)
            rw [take_succ_of ew]
            exact words_app hqs hp
        · rintro ys H2 ⟨sm, L, hL, py⟩ tl htl
          rw [vl, List.take_length] at hL
          have Ll := words_len hL
          rw [hL] at rd
          replace rd : readN z = if upN3 L = true then some L else none := rd
          have s2 := Same.new (o := HO.lst ys) htl
          have h2 : (upd H2 tl (.lst ys)) tl = some (.lst ys) := upd_same
          have py := terms_same py s2
          have s02 := s1.trans (sm.trans s2)
          generalize upd H2 tl (.lst ys) = H3 at s2 h2 py s02 ⊢
          have yl := Paired.length py
          obtain ⟨y0, ys0, ey⟩ : ∃ y0 ys0, ys = y0 :: ys0 := by
            cases ys with
            | nil => exact absurd (List.length_eq_zero_iff.mp (Ll.symm.trans yl.symm)) wne
            | cons y0 ys0 => exact ⟨y0, ys0, rfl⟩
          dsimp only [gName, List.set]
          refine seq_abs fun M hM => ?_
          refine ⟨_, rfl, _, rfl, _, rfl, tl, _, rfl, SqL.of h2, fun bl hbl => ?_⟩
          have ec : cutV ys (some 1) none = ys0 := by rw [ey]; exact cut_one ys0 y0
          rw [ec]
          have s4 := Same.new (o := HO.lst ys0) hbl
          have h4 : (upd H3 bl (.lst ys0)) bl = some (.lst ys0) := upd_same
          have h24 := s4 _ _ h2
          have py4 := terms_same py s4
          have s04 := s02.trans s4
          generalize upd H3 bl (.lst ys0) = H4 at s4 h4 h24 py4 s04 ⊢
          refine ⟨tl, bl, _, _, rfl, SqL.of h24, SqL.of h4, for_zip2 (k1 := .l) (k2 := .l) (K := K) (a := tl) (b := bl) (xs := ys) (ys := ys0) (fun i σ H' => (∃ u v, σ = [some (.str (mkS z)), some (.ref wa), some (.ref tl), u, v]) /\ Same H4 H' /\ ∀ j, j < i -> ∀ a b : T3, L[j]? = some a -> L[j + 1]? = some b -> keyLt a b) ⟨⟨_, _, rfl⟩, Same.refl _, fun j hj => absurd hj (Nat.not_lt_zero j)⟩ (fun i σ H' _ z => ⟨SqL.of (z.2.1 _ _ h24), SqL.of (z.2.1 _ _ h4)⟩) (by rw [ey, List.length_cons]; lia) ?_ ?_⟩
          · rintro i x y p σ H5 hx hy ⟨⟨u, v, rfl⟩, sm5, up⟩ hp
            have hy' : ys[i + 1]? = some y := by rw [ey]; exact hy
            obtain ⟨t1, e1, b1, rfl, hb1⟩ := Paired.at py4 hx
            obtain ⟨t2, e2, b2, rfl, hb2⟩ := Paired.at py4 hy'
            have sp := Same.new (o := HO.tup [.ref b1, .ref b2]) hp
            have hp' : (upd H5 p (.tup [.ref b1, .ref b2])) p = some (.tup [.ref b1, .ref b2]) := upd_same
            have s5p := sm5.trans sp
            generalize upd H5 p (.tup [.ref b1, .ref b2]) = H6 at sp hp' s5p ⊢
            refine ⟨p, _, rfl, SqT.of hp', rfl, _, _, rfl, _, _, rfl, rfl, ?_⟩
            dsimp only [List.set]
            refine ⟨_, rfl, _, rfl, b1, _, rfl, SqT.of (s5p _ _ hb1), not2 _ _ _, fun p1 hp1 => ?_⟩
            rw [cut2]
            have s7 := Same.new (o := HO.tup [.int t1.1, .int t1.2.1]) hp1
            have h7 : (upd H6 p1 (.tup [.int t1.1, .int t1.2.1])) p1 = some (.tup [.int t1.1, .int t1.2.1]) := upd_same
            generalize upd H6 p1 (.tup [.int t1.1, .int t1.2.1]) = H7 at s7 h7 ⊢
            refine ⟨_, rfl, _, rfl, b2, _, rfl, SqT.of (s7 _ _ (s5p _ _ hb2)), not2 _ _ _, fun p2 hp2 => ?_⟩
            rw [cut2]
            have s8 := Same.new (o := HO.tup [.int t2.1, .int t2.2.1]) hp2
            refine ⟨p1, p2, [t1.1, t1.2.1], [t2.1, t2.2.1], rfl, rfl, SqT.of (s8 _ _ h7), SqT.of upd_same, _, rfl, ?_⟩
            have s58 := (s5p.trans s7).trans s8
            by_cases lt : keyLt t1 t2
            · rw [keyLt_ge lt]
              refine iteF ⟨⟨_, _, rfl⟩, s58, fun j hj a b ha hb => ?_⟩
              by_cases hji : j = i
              · subst hji
                rw [e1] at ha
                rw [e2] at hb
                cases ha
                cases hb
                exact lt
              · exact up j (by lia) a b ha hb
            · rw [ge_yes lt]
              exact iteT ⟨by show 1 <= 100; decide, qe _ (by rw [rd, if_neg fun z => lt (up_at.mp z i t1 t2 e1 e2)]) (s04.trans s58)⟩
          · rintro σ H5 ⟨⟨u, v, rfl⟩, sm5, up⟩
            refine hM _ _ ?_
            clear hM M
            refine ⟨_, rfl, tl, ys, rfl, .inl ⟨SqL.of (sm5 _ _ h24), fun r hr' => ?_⟩⟩
            have s6 := Same.new (o := HO.tup ys) hr'
            refine q L (.ref r) _ ?_ ((s04.trans sm5).trans s6) ⟨r, ys, rfl, upd_same, terms_same py4 (sm5.trans s6)⟩
            rw [rd, if_pos]
            refine up_at.mpr fun i a b ha hb => up i ?_ a b ha hb
            have := (List.getElem?_eq_some_iff.mp hb).1
            rw [ey, List.length_cons] at yl
            lia
      · rw [decide_eq_true (show (100 : Int) < (ws.length : Int) by lia)]
        exact iteT ⟨_, rfl, by decide +kernel, 100, rfl, by decide +kernel, _, rfl, by decide +kernel, _, rfl, by decide +kernel, by decide +kernel, by show 1 <= 100; decide, qe _ (by rw [rd, if_neg h100]) s1⟩
end
end My
namespace My
open PySem L2 PySem.NumText PyProof.Rows
theorem for_str {z : Str} {g : TG} {tb : TS} {D : Ends} {σ : L2.St} {H : Hp} (Pv : Nat -> L2.St -> Hp -> Prop) (h0 : Pv 0 σ H)
    (hs : ∀ i c σ H, z.cps[i]? = some c -> Pv i σ H -> g (.str ⟨#[c]⟩) σ H fun σ2 H2 => tb { D with nx := Pv (i + 1), ct := Pv (i + 1), bk := D.nx } σ2 H2) (hd : ∀ σ H, Pv z.cps.size σ H -> D.nx σ H) :
    ∃ W : Nat -> Nat -> L2.St -> Hp -> Prop, (∃ m, W 0 m σ H) /\ ∀ i m σ H, W i m σ H ->
      ((Its z).stop i H /\ D.nx σ H) \/ ((Its z).go i H /\ ∃ N : L2.St -> Hp -> Prop, (∀ σ' H', N σ' H' -> ∃ m', m' < m /\ W (i + 1) m' σ' H') /\ ∀ x H', (Its z).yld i H x H' -> g x σ H' fun σ2 H2 => tb { D with nx := N, ct := N, bk := D.nx } σ2 H2) := by
  refine ⟨fun i m σ H => m = z.cps.size - i /\ i <= z.cps.size /\ Pv i σ H, ⟨z.cps.size, by simp, Nat.zero_le _, h0⟩, ?_⟩
  rintro i m σ H ⟨rfl, hi, p⟩
  by_cases hlt : i < z.cps.size
  · refine .inr ⟨hlt, Pv (i + 1), fun σ' H' q => ⟨_, ?_, rfl, hlt, q⟩, ?_⟩
    · lia
    · rintro x H' ⟨rfl, c, hc, rfl⟩
      exact hs i c σ _ hc p
  · have e : i = z.cps.size := by lia
    subst e
    exact .inl ⟨Nat.le_refl _, hd σ H p⟩
def optV : Option Int -> V
  | some n => .int n
  | none => .non
def spFigs : Sp := fun vs H Q _ => ∃ (w : List Nat) (most : Nat), vs = [.str (mkS w), .int most] /\ Asc w /\ most <= 60 /\ ∀ H', Same H H' -> Q (optV (numN most w)) H'
def spLPow : Sp := fun vs H Q _ => ∃ (w : List Nat) (u : Nat), vs = [.str (mkS w), .str (mkS [u])] /\ Asc w /\ u < 128 /\ ∀ H', Same H H' -> Q (optV (facN u w)) H'
theorem fac_one (u : Nat) : facN u [u] = some 1 := by
  unfold facN
  rw [if_pos (show [u].head? = some u from rfl)]
  rfl
theorem fac_hat {u : Nat} {r : List Nat} : facN u (u :: 94 :: r) = inP (numN 2 r) := by
  unfold facN
  rw [if_pos (show (u :: 94 :: r).head? = some u from rfl)]
  show (if (94 : Nat) = 94 then inP (numN 60 r) else none) = _
  rw [if_pos rfl, pw_two]
theorem fac_no {u : Nat} {w : List Nat} (h1 : w ≠ [u]) (h2 : w.take 2 ≠ [u, 94]) : facN u w = none := by
  unfold facN
  match w, h1, h2 with
  | [], _, _ => rfl
  | [a], h1, _ =>
    rw [if_neg]
    intro z
    exact h1 (by rw [Option.some.inj z])
  | a :: b :: r, _, h2 =>
    split
    · rename_i z
      have ea : a = u := Option.some.inj z
      show (if b = 94 then inP (numN 60 r) else none) = none
      rw [if_neg]
      intro zb
      exact h2 (by rw [ea, zb]; rfl)
    · rfl
section
variable {P : Program} {w : World} {K : W.Frag} {mg : Str -> Option Value} {base : Heap}
theorem scFigs : FnScope ["_law_text_here", "_law_most", "_law_sign"] ["_law_text_here", "_law_most"] (defScope sFigs) := ⟨rfl, rfl, rfl, by decide +kernel, rfl, by decide +kernel, by decide +kernel⟩
theorem d_figs (T : TxP mg) (S : Src K mg "_law_figures" sFigs ["_law_text_here", "_law_most"]) : Def P w K mg base 1 "_law_figures" ["_law_text_here", "_law_most"] spFigs := by
  refine S.def scFigs (fun vs H Q E h => ?_) (fun f cdv A outer s H vs Q E hr h => ?_)
  · obtain ⟨_, _, rfl, _⟩ := h; rfl
  · obtain ⟨l, most, rfl, as, m60, q⟩ := h
    refine ⟨_, pss_cons (ps_if (PW.pt (pw_or (pt_cmpR op_eq (pv 0) pe_str (nomark _)) (pw_or (pt_cmpR op_gt (pe_callB call_len_str (by rfl) T.len PySem.boot_len (pa_cons (pv 0) pa_nil)) (pv 1) (nomark _)) (pw_or1 (pt_cmpR op_eq (pe_ix ix_str (pv 0) pe_int (fun _ _ => rfl)) pe_str (nomark _)))))) (pss_one (ps_ret pe_non)) pss_nil)
      (pss_cons (ps_for PassesOwn.never rfl (pi_str (pv 0)) (pg_name (i := 2) scFigs.nd rfl (Or.inl rfl)) (pss_one (ps_if (pt_cmpR op_notin_str (pv 2) pe_str rfl) (pss_one (ps_ret pe_non)) pss_nil)))
      (pss_one (ps_ret (pe_callTy call_intS rfl T.int boot_int' (pa_cons (pv 0) pa_nil))))), ?_⟩
    have L' : (mkS l).length = l.length := mkS_len _
    have no : numN most l = none -> Q .non H := fun e => by
      have := q H (Same.refl H)
      rw [e] at this
      exact this
    refine ⟨_, rfl, rfl, _, rfl, ?_⟩
    rw [lit_none, strs_dec]
    cases el : l with
    | nil =>
      rw [decide_eq_true rfl]
      exact iteT (iteT (no (num_no (.inl (by rw [el]; simp)))))
    | cons c r =>
      rw [<- el, decide_eq_false (show ¬ l = [] by rw [el]; exact List.cons_ne_nil _ _)]
      refine iteF ⟨_, rfl, _, rfl, as.len, _, rfl, _, _, rfl, rfl, _, rfl, ?_⟩
      rw [L']
      by_cases hm : l.length <= most
      · rw [decide_eq_false (show ¬ (most : Int) < (l.length : Int) by lia)]
        refine iteF ⟨_, rfl, _, 0, c, rfl, rfl, as.len, by rw [mkS_list, el]; exact atI_nat (j := 0) rfl, rfl, _, rfl, ?_⟩
        rw [lit_zero, show (⟨#[c]⟩ : Str) = mkS [c] from rfl, strs_dec]
        by_cases c48 : c = 48
        · rw [decide_eq_true (show [c] = [48] by rw [c48])]
          exact iteT (no (num_no (.inr (.inl (by rw [el, c48]; rfl)))))
        · rw [decide_eq_false (show ¬ [c] = [48] by intro z; exact c48 (List.cons.inj z).1)]
          refine iteF ?_
          refine seq_abs fun M0 hM0 => hM0 _ _ ?_
          clear hM0 M0
          refine seq_abs fun M hM => ?_
          refine ⟨_, rfl, _, rfl, as.all, for_str (z := mkS l) (fun i σ H' => H' = H /\ (∃ u, σ = [some (.str (mkS l)), some (.int most), u]) /\ (l.take i).all isFig = true) ⟨rfl, ⟨_, rfl⟩, rfl⟩ ?_ ?_⟩
          · rintro i c' σ H' hc ⟨rfl, ⟨u, rfl⟩, ha⟩
            have hc' : l[i]? = some c' := by
              have : (mkS l).cps.toList[i]? = some c' := by simpa using hc
              rwa [mkS_list] at this
            dsimp only [gName, List.set]
            refine ⟨_, rfl, _, _, rfl, rfl, _, rfl, ?_⟩
            rw [StrLaws.found_one, fig_mem]
            cases hf : isFig c' with
            | false => exact iteT (no (num_no (.inr (.inr (by
                rw [Bool.eq_false_iff]
                intro z
                have := List.all_eq_true.mp z c' (List.mem_of_getElem? hc')
                rw [hf] at this
                cases this)))))
            | true =>
              refine iteF ⟨rfl, ⟨_, rfl⟩, ?_⟩
              rw [take_succ_of hc', List.all_append, ha, Bool.true_and]
              simp [hf]
          · rintro σ H' ⟨rfl, ⟨u, rfl⟩, ha⟩
            rw [mkS_size, List.take_length] at ha
            refine hM _ _ ?_
            have l1 : 1 <= l.length := by rw [el, List.length_cons]; lia
            have z := q _ (Same.refl H')
            rw [num_yes l1 hm (by rw [el]; simpa using c48) ha] at z
            exact ⟨_, rfl, _, _, rfl, figs_int ha l1 (by lia), by rw [L']; lia, z⟩
      · rw [decide_eq_true (show (most : Int) < (l.length : Int) by lia)]
        exact iteT (iteT (no (num_no (.inl fun z => hm z.2))))
theorem scLPow : FnScope ["_law_text_here", "_law_letter", "_law_k"] ["_law_text_here", "_law_letter"] (defScope sLPow) := ⟨rfl, rfl, rfl, by decide +kernel, rfl, by decide +kernel, by decide +kernel⟩
theorem d_lpow (S : Src K mg "_law_power" sLPow ["_law_text_here", "_law_letter"]) (DF : Def P w K mg base 1 "_law_figures" ["_law_text_here", "_law_most"] spFigs) : Def P w K mg base 2 "_law_power" ["_law_text_here", "_law_letter"] spLPow := by
  refine S.def scLPow (fun vs H Q E h => ?_) (fun f cdv A outer s H vs Q E hr h => ?_)
  · obtain ⟨_, _, rfl, _⟩ := h; rfl
  · obtain ⟨l, u, rfl, as, u8, q⟩ := h
    refine ⟨_, pss_cons (ps_if (pt_cmpR op_eq (pv 0) (pv 1) (nomark _)) (pss_one (ps_ret pe_int)) pss_nil)
      (pss_cons (ps_if (pt_cmpR op_ne (pe_slice sl_str (pv 0) po_none (po_some pe_int)) (pe_op op_add_str (pv 1) pe_str) (nomark _)) (pss_one (ps_ret pe_non)) pss_nil)
      (pss_cons (ps_set (i := 2) scLPow.nd rfl (Or.inl rfl) (pe_def DF hr rfl (pa_cons (pe_slice sl_str (pv 0) (po_some pe_int) po_none) (pa_cons pe_int pa_nil))))
      (pss_cons (ps_if (PW.pt (pw_or (pt_cmpR op_isN (pv 2) pe_non (nomark _)) (pw_or (pt_cmpR op_lt (pv 2) pe_int (nomark _)) (pw_or1 (pt_cmpR op_gt (pv 2) pe_int (nomark _)))))) (pss_one (ps_ret pe_non)) pss_nil)
      (pss_one (ps_ret (pv 2)))))), ?_⟩
    refine ⟨_, rfl, _, rfl, rfl, _, rfl, ?_⟩
    rw [strs_dec]
    by_cases h1 : l = [u]
    · rw [decide_eq_true h1]
      have := q H (Same.refl H)
      rw [h1, fac_one] at this
      exact iteT this
    rw [decide_eq_false h1]
    refine iteF ⟨_, rfl, _, rfl, _, rfl, as.len, ?_⟩
    rw [show (some (2 : Int)) = some ((2 : Nat) : Int) from rfl, slice_to]
    refine ⟨_, rfl, _, _, rfl, rfl, by rw [mkS_len]; exact line_of (by show 1 + ("^" : Str).length <= 100000; decide +kernel), rfl, _, rfl, ?_⟩
    rw [lit_hat, mk_app, strs_dec]
    by_cases h2 : l.take 2 = [u] ++ [94]
    · rw [decide_eq_true h2]
      refine iteF ?_
      obtain ⟨r, rfl⟩ : ∃ r, l = u :: 94 :: r := by
        rcases l with _ | ⟨a, _ | ⟨b, r⟩⟩
        · cases h2
        · cases h2
        · have h2' : [a, b] = [u, 94] := h2
          injection h2' with e1 e2
          injection e2 with e2 _
          exact ⟨r, by rw [e1, e2]⟩
      refine ⟨_, rfl, _, rfl, _, rfl, as.len, ?_⟩
      rw [show (some (2 : Int)) = some ((2 : Nat) : Int) from rfl, slice_from]
      refine ⟨r, 2, rfl, as.drop 2, by decide, fun H' s' => ?_⟩
      dsimp only [gName, List.set]
      have z := q H' s'
      rw [fac_hat] at z
      refine ⟨_, rfl, rfl, _, rfl, ?_⟩
      cases hn : numN 2 r with
      | none =>
        rw [hn] at z
        exact iteT (iteT z)
      | some k =>
        rw [hn] at z
        refine iteF ⟨_, rfl, _, _, rfl, rfl, _, rfl, ?_⟩
        have ze : inP (some k) = if 2 <= k /\ k <= 60 then some k else none := rfl
        rw [ze] at z
        by_cases k2 : 2 <= k
        · rw [decide_eq_false (show ¬ k < 2 by lia)]
          refine iteF ⟨_, rfl, _, _, rfl, rfl, _, rfl, ?_⟩
          by_cases k6 : k <= 60
          · rw [decide_eq_false (show ¬ (60 : Int) < k by lia)]
            rw [if_pos ⟨k2, k6⟩] at z
            exact iteF ⟨_, rfl, z⟩
          · rw [decide_eq_true (show (60 : Int) < k by lia)]
            rw [if_neg fun y => k6 y.2] at z
            exact iteT z
        · rw [decide_eq_true (show k < 2 by lia)]
          rw [if_neg fun y => k2 y.1] at z
          exact iteT (iteT z)
    · rw [decide_eq_false h2]
      have z := q H (Same.refl H)
      rw [fac_no h1 h2] at z
      exact iteT z
end
end My
namespace My
open PySem L2 PySem.NumText PyProof.Rows
def atXY (f : List Nat) : Int := match f with
  | [] => 0
  | c :: _ => if c = 120 then 0 else if c = 121 then 1 else -1
theorem find_xy (f : List Nat) : findV ("xy" : Str) (mkS (f.take 1)) = atXY f := by
  have e0 : ("xy" : Str) = mkS [120, 121] := by decide +kernel
  rw [e0]
  cases f with
  | nil => decide +kernel
  | cons c r =>
    show findV (mkS [120, 121]) (mkS [c]) = if c = 120 then 0 else if c = 121 then 1 else -1
    by_cases h0 : c = 120
    · subst h0
      decide +kernel
    · by_cases h1 : c = 121
      · subst h1
        decide +kernel
      · rw [if_neg h0, if_neg h1]
        have e : Builtin.Str.occurrences (mkS [120, 121]) (mkS [c]) 0 (mkS [120, 121]).length 1 = [] := by
          have := StrLaws.found_one (mkS [120, 121]) c
          have z : decide (c ∈ (mkS [120, 121]).cps.toList) = false := by
            rw [mkS_list]
            simp [h0, h1]
          rw [z] at this
          have := congrArg (fun b => !b) this
          simp only [Bool.not_not, Bool.not_false, List.isEmpty_iff] at this
          exact this
        unfold findV
        rw [e]
def lstep (f : List Nat) (st : Int × Int × Int) : Option (Int × Int × Int) := if f = [] \/ atXY f <= st.1 then none else
  if f.head? = some 120 then (facN 120 f).map fun k => (0, k, st.2.2) else (facN 121 f).map fun k => (1, st.2.1, k)
def lrun (fr : List (List Nat)) : Nat -> Option (Int × Int × Int)
  | 0 => some (-1, 0, 0)
  | i + 1 => (lrun fr i).bind fun st => (fr[i]?).bind fun f => lstep f st
theorem term_law {f : List Nat} {fr : List (List Nat)} {t : Int} (ht : timesN f = some t) (hl : fr.length <= 2) : termN (f :: fr) = (lrun fr fr.length).map fun st => (st.2.1, st.2.2, t) := by
  have s1 : ∀ a : List Nat, lstep a (-1, 0, 0) = if a.head? = some 120 then (pwN a.tail).map fun k => (0, k, 0) else if a.head? = some 121 then (pwN a.tail).map fun k => (1, 0, k) else none := fun a => by
    unfold lstep
    cases a with
    | nil => rfl
    | cons c r =>
      by_cases h0 : c = 120
      · subst h0
        simp [atXY, facN]
      · by_cases h1 : c = 121
        · subst h1
          simp [atXY, facN]
        · simp [atXY, h0, h1]
  have s2 : ∀ (a : List Nat) (k : Int), lstep a (0, k, 0) = (facN 121 a).map fun l => (1, k, l) := fun a k => by
    unfold lstep
    cases a with
    | nil => rfl
    | cons c r =>
      by_cases h0 : c = 120
      · subst h0
        simp [atXY, facN]
      · by_cases h1 : c = 121
        · subst h1
          simp [atXY, facN]
        · simp [atXY, h0, h1, facN]
  have s3 : ∀ (a : List Nat) (k : Int), lstep a (1, 0, k) = none := fun a k => by
    unfold lstep
    cases a with
    | nil => rfl
    | cons c r =>
      by_cases h0 : c = 120
      · subst h0
        simp [atXY]
      · by_cases h1 : c = 121
        · subst h1
          simp [atXY]
        · simp [atXY, h0, h1]
  rcases fr with _ | ⟨a, _ | ⟨b, _ | ⟨c, r⟩⟩⟩
  · simp [termN, ht, lrun]
  · by_cases ha : a.head? = some 120
    · cases hp : pwN a.tail <;> simp [termN, ht, lrun, s1, ha, hp]
    · by_cases hb : a.head? = some 121
      · cases hp : pwN a.tail <;> simp [termN, ht, lrun, s1, ha, hb, hp, facN]
      · simp [termN, ht, lrun, s1, ha, hb, facN]
  · by_cases ha : a.head? = some 120
    · cases hp : pwN a.tail with
      | none => simp [termN, ht, lrun, s1, ha, hp, facN]
      | some k =>
        cases hq : facN 121 b <;> simp [termN, ht, lrun, s1, s2, ha, hp, hq, facN] <;> (unfold facN at hq; simp [hq])
    · by_cases hb : a.head? = some 121
      · cases hp : pwN a.tail <;> simp [termN, ht, lrun, s1, s3, ha, hb, hp, facN]
      · simp [termN, ht, lrun, s1, ha, hb, facN]
  · simp at hl
theorem term_many {f : List Nat} {fr : List (List Nat)} (hl : ¬ fr.length <= 2) : termN (f :: fr) = none := by
  rcases fr with _ | ⟨a, _ | ⟨b, _ | ⟨c, r⟩⟩⟩
  · exact absurd (by simp) hl
  · exact absurd (by simp) hl
  · exact absurd (by simp) hl
  · cases h : timesN f <;> simp [termN, h]
def spLTerm : Sp := fun vs H Q _ => ∃ w : List Nat, vs = [.str (mkS w)] /\ Asc w /\ (∀ (t : T3) d H', wordN w = some t -> Same H H' -> H' d = some (.tup [.int t.1, .int t.2.1, .int t.2.2]) -> Q (.ref d) H') /\ (∀ H', wordN w = none -> Same H H' -> Q .non H')
theorem take_one (l : List Nat) : (l.take 1 = [45]) ↔ l.head? = some 45 := by
  cases l with
  | nil => simp
  | cons a r => simp
section
variable {P : Program} {w : World} {K : W.Frag} {mg : Str -> Option Value} {base : Heap}
theorem scLTerm : FnScope ["_law_text_here", "_law_words", "_law_sign", "_law_first", "_law_times", "_law_powers", "_law_last", "_law_word", "_law_at_here", "_law_k"] ["_law_text_here"] (defScope sLTerm) := ⟨rfl, rfl, rfl, by decide +kernel, rfl, by decide +kernel, by decide +kernel⟩
theorem d_lterm (T : TxP mg) (S : Src K mg "_law_read_term" sLTerm ["_law_text_here"]) (DF : Def P w K mg base 1 "_law_figures" ["_law_text_here", "_law_most"] spFigs) (DP : Def P w K mg base 2 "_law_power" ["_law_text_here", "_law_letter"] spLPow) : Def P w K mg base 3 "_law_read_term" ["_law_text_here"] spLTerm := by
  refine S.def scLTerm (fun vs H Q E h => ?_) (fun f cdv A outer s H vs Q E hr h => ?_)
  · obtain ⟨_, rfl, _⟩ := h; rfl
  · obtain ⟨l, rfl, as, q, qn⟩ := h
    have hr1 : Room 1 _ := hr.mono (by decide)
    refine ⟨_, pss_cons (ps_set (i := 1) scLTerm.nd rfl (Or.inl rfl) (pe_bm PySem.F.plainAttrs_str PySem.F.slot_str_split PySem.F.type_str_split mt_splitG (pv 0) (pa_cons pe_str pa_nil)))
      (pss_cons (ps_set (i := 2) scLTerm.nd rfl (Or.inl rfl) pe_int)
      (pss_cons (ps_set (i := 3) scLTerm.nd rfl (Or.inl rfl) (pe_ix (ix_listK K) (pv 1) pe_int (fun _ _ => rfl)))
      (pss_cons (ps_if (pt_cmpR op_eq (pe_slice sl_str (pv 3) po_none (po_some pe_int)) pe_str (nomark _)) (pss_cons (ps_set (i := 2) scLTerm.nd rfl (Or.inl rfl) (pe_un un_neg pe_int)) (pss_one (ps_set (i := 3) scLTerm.nd rfl (Or.inl rfl) (pe_slice sl_str (pv 3) (po_some pe_int) po_none)))) pss_nil)
      (pss_cons (ps_set (i := 4) scLTerm.nd rfl (Or.inl rfl) (pe_def DF hr1 rfl (pa_cons (pv 3) (pa_cons pe_int pa_nil))))
      (pss_cons (ps_if (PW.pt (pw_or (pt_cmpR op_isN (pv 4) pe_non (nomark _)) (pw_or1 (pt_cmpR op_gt (pe_callB (call_lenK K) (by rfl) T.len PySem.boot_len (pa_cons (pv 1) pa_nil)) pe_int (nomark _))))) (pss_one (ps_ret pe_non)) pss_nil)
      (pss_cons (ps_set (i := 5) scLTerm.nd rfl (Or.inl rfl) (pe_lst (pa_cons pe_int (pa_cons pe_int pa_nil))))
      (pss_cons (ps_set (i := 6) scLTerm.nd rfl (Or.inl rfl) (pe_un un_neg pe_int))
      (pss_cons (ps_for PassesOwn.never rfl (pi_seqK K .l (pe_slice (sl_listK K) (pv 1) (po_some pe_int) po_none)) (pg_name (i := 7) scLTerm.nd rfl (Or.inl rfl))
        (pss_cons (ps_set (i := 8) scLTerm.nd rfl (Or.inl rfl) (pe_bm PySem.F.plainAttrs_str PySem.F.slot_str_find PySem.F.type_str_find mt_find pe_str (pa_cons (pe_slice sl_str (pv 7) po_none (po_some pe_int)) pa_nil)))
        (pss_cons (ps_if (PW.pt (pw_or (pt_cmpR op_eq (pv 7) pe_str (nomark _)) (pw_or1 (pt_cmpR op_le (pv 8) (pv 6) (nomark _))))) (pss_one (ps_ret pe_non)) pss_nil)
        (pss_cons (ps_set (i := 9) scLTerm.nd rfl (Or.inl rfl) (pe_def DP hr rfl (pa_cons (pv 7) (pa_cons (pe_ix ix_str pe_str (pv 8) (fun _ _ => rfl)) pa_nil))))
        (pss_cons (ps_if (pt_cmpR op_isN (pv 9) pe_non (nomark _)) (pss_one (ps_ret pe_non)) pss_nil)
        (pss_cons (ps_asg (pv 9) (pg_sub (pv 5) (pv 8) set_list))
        (pss_one (ps_set (i := 6) scLTerm.nd rfl (Or.inl rfl) (pv 8)))))))))
      (pss_one (ps_ret (pe_tup (pa_cons (pe_ix (ix_listK K) (pv 5) pe_int (fun _ _ => rfl)) (pa_cons (pe_ix (ix_listK K) (pv 5) pe_int (fun _ _ => rfl)) (pa_cons (pe_op op_mul (pv 2) (pv 4)) pa_nil)))))))))))))), ?_⟩
    have wl := splitC_len l [42]
    obtain ⟨f0, fr, ef⟩ : ∃ f0 fr, splitC l [42] = f0 :: fr := by
      cases e : splitC l [42] with
      | nil => exact absurd e (splitC_ne _ _)
      | cons a r => exact ⟨a, r, rfl⟩
    have wN : wordN l = termN (splitC l [42]) := rfl
    have asc : ∀ f ∈ splitC l [42], Asc f := fun f h => as.part h
    have l9 := as.2
    refine ⟨_, rfl, rfl, _, _, splitP (mkS l) (mkS [42]), rfl, congrArg (fun z => [V.str z]) lit_star, kind_star, rfl, by rw [mkS_len]; lia, split_ok as, splitIs_P _ _, fun fl hfl => ?_⟩
    rw [split_vs, ef]
    rw [ef] at wl wN asc
    have s1 := Same.new (o := HO.lst (vsC (f0 :: fr))) hfl
    have h1 : (upd H fl (HO.lst (vsC (f0 :: fr)))) fl = some (.lst (vsC (f0 :: fr))) := upd_same
    generalize upd H fl (HO.lst (vsC (f0 :: fr))) = H1 at s1 h1 ⊢
    dsimp only [gName, List.set]
    refine seq_abs fun M0 hM0 => hM0 _ _ ?_
    clear hM0 M0
    have vl : (vsC (f0 :: fr)).length = fr.length + 1 := by unfold vsC; rw [List.length_map, List.length_cons]
    have a0 : Asc f0 := asc f0 List.mem_cons_self
    refine ⟨_, rfl, fl, _, _, _, rfl, rfl, SqL.of h1, atI_nat (j := 0) rfl, ?_⟩
    dsimp only [gName, List.set]
    refine seq_abs fun M hM => ?_
    have go : ∀ (sg : Int) (g : List Nat), Asc g -> (sg = 1 \/ sg = -1) -> timesN f0 = (numN 60 g).map (fun n => sg * n) -> M [some (.str (mkS l)), some (.ref fl), some (.int sg), some (.str (mkS g)), none, none, none, none, none, none] H1 := fun sg g ag sb tg => hM _ _ (by
      clear hM M
      refine ⟨_, rfl, g, 60, rfl, ag, by decide, fun H2 s2 => ?_⟩
      dsimp only [gName, List.set]
      refine ⟨_, rfl, rfl, _, rfl, ?_⟩
      cases hn : numN 60 g with
      | none => exact iteT (iteT (qn H2 (by rw [wN]; exact term_no (by rw [tg, hn]; rfl)) (s1.trans s2)))
      | some n =>
        rw [hn] at tg
        have tg' : timesN f0 = some (sg * n) := tg
        refine iteF ⟨_, rfl, fl, _, rfl, .inl (SqL.of (s2 _ _ h1)), _, _, rfl, rfl, _, rfl, ?_⟩
        rw [vl]
        by_cases h2 : fr.length <= 2
        · rw [decide_eq_false (show ¬ (3 : Int) < ((fr.length + 1 : Nat) : Int) by lia)]
          refine iteF ?_
          have tl := term_law tg' h2
          refine seq_abs fun M0 hM0 => hM0 _ _ ?_
          clear hM0 M0
          refine ⟨by show 2 <= sizeLine; decide, fun pl hpl => ?_⟩
          have hplH : H pl = none := none_of (s1.trans s2) hpl
          have s3 := (s1.trans s2).trans (Same.new (o := HO.lst [.int 0, .int 0]) hpl)
          have h3 : (upd H2 pl (HO.lst [.int 0, .int 0])) pl = some (.lst [.int 0, .int 0]) := upd_same
          have hf3 := Same.new (o := HO.lst [.int 0, .int 0]) hpl _ _ (s2 _ _ h1)
          generalize upd H2 pl (HO.lst [.int 0, .int 0]) = H3 at s3 h3 hf3 ⊢
          dsimp only [gName, List.set]
          refine ⟨_, rfl, ?_⟩
          dsimp only [gName, List.set]
          refine seq_abs fun M hM => ?_
          refine ⟨_, rfl, _, rfl, fl, _, rfl, SqL.of hf3, fun rl hrl => ?_⟩
          have ec : cutV (vsC (f0 :: fr)) (some 1) none = vsC fr := cut_one (vsC fr) (.str (mkS f0))
          rw [ec]
          have nrp : rl ≠ pl := fun z => by rw [z, h3] at hrl; cases hrl
          have s4 := s3.trans (Same.new (o := HO.lst (vsC fr)) hrl)
          have h4 : (upd H3 rl (HO.lst (vsC fr))) rl = some (.lst (vsC fr)) := upd_same
          replace h3 := Same.new (o := HO.lst (vsC fr)) hrl _ _ h3
          generalize upd H3 rl (HO.lst (vsC fr)) = H4 at s4 h3 h4 ⊢
          have vr : (vsC fr).length = fr.length := List.length_map ..
          refine ⟨rl, rfl, ⟨_, SqL.of h4⟩, for_seq (k := .l) (K := K) (a := rl) (xs := vsC fr) (fun i σ H' => ∃ st : Int × Int × Int, lrun fr i = some st /\ -1 <= st.1 /\ (∃ u1 u2 u3, σ = [some (.str (mkS l)), some (.ref fl), some (.int sg), some (.str (mkS g)), some (.int n), some (.ref pl), some (.int st.1), u1, u2, u3]) /\ Same H H' /\ H' rl = some (.lst (vsC fr)) /\ H' pl = some (.lst [.int st.2.1, .int st.2.2]))
            ⟨(-1, 0, 0), rfl, Int.le_refl _, ⟨_, _, _, rfl⟩, s4, h4, h3⟩ (fun i σ H' _ ⟨_, z⟩ => SqL.of z.2.2.2.2.1) ?_ ?_⟩
          · rintro i x σ H5 hx ⟨st, rn, s1m, ⟨u1, u2, u3, rfl⟩, sm, hr5, hp5⟩
            unfold vsC at hx
            rw [List.getElem?_map] at hx
            cases ew : fr[i]? with
            | none => rw [ew] at hx; cases hx
            | some fi =>
              rw [ew] at hx
              cases hx
              have ai : Asc fi := asc fi (List.mem_cons_of_mem _ (List.mem_of_getElem? ew))
              have run : lrun fr (i + 1) = lstep fi st := by
                show (lrun fr i).bind _ = _
                rw [rn, Option.bind_some, ew, Option.bind_some]
              have bad : lstep fi st = none -> Q .non H5 := fun e => qn H5 (by
                rw [wN, tl]
                have dead : ∀ d, lrun fr (i + 1 + d) = none := fun d => by
                  induction d with
                  | zero => rw [Nat.add_zero, run, e]
                  | succ d ih =>
                    show (lrun fr (i + 1 + d)).bind _ = none
                    rw [ih]
                    rfl
                have il := (List.getElem?_eq_some_iff.mp ew).1
                have := dead (fr.length - (i + 1))
                rw [show i + 1 + (fr.length - (i + 1)) = fr.length by lia] at this
                rw [this]
                rfl) sm
              dsimp only [gName, List.set]
              refine ⟨rfl, _, rfl, _, rfl, _, rfl, ai.len, ?_⟩
              rw [show (some (1 : Int)) = some ((1 : Nat) : Int) from rfl, slice_to]
              refine ⟨_, _, rfl, rfl, ?_⟩
              rw [find_xy]
              dsimp only [gName, List.set]
              refine ⟨_, rfl, rfl, _, rfl, ?_⟩
              rw [lit_none, strs_dec]
              by_cases hne : fi = []
              · rw [decide_eq_true hne]
                exact iteT (iteT (bad (if_pos (.inl hne))))
              rw [decide_eq_false hne]
              refine iteF ⟨_, rfl, _, rfl, _, _, rfl, rfl, _, rfl, ?_⟩
              by_cases hle : atXY fi <= st.1
              · rw [decide_eq_true hle]
                exact iteT (bad (if_pos (.inr hle)))
              rw [decide_eq_false hle]
              refine iteF ?_
              refine seq_abs fun M0 hM0 => hM0 _ _ ?_
              clear hM0 M0
              have ls : lstep fi st = if fi.head? = some 120 then (facN 120 fi).map fun k => (0, k, st.2.2) else (facN 121 fi).map fun k => (1, st.2.1, k) := if_neg (by rintro (z | z); exact hne z; exact hle z)
              obtain ⟨j, u, ej, eu, uu, lu⟩ : ∃ (j u : Nat), atXY fi = (j : Int) /\ (mkS [120, 121]).cps.toList[j]? = some u /\ u < 128 /\ ((j = 0 /\ u = 120 /\ lstep fi st = (facN 120 fi).map fun k => (0, k, st.2.2)) \/ (j = 1 /\ u = 121 /\ lstep fi st = (facN 121 fi).map fun k => (1, st.2.1, k))) := by
                cases fi with
                | nil => exact absurd rfl hne
                | cons c r =>
                  by_cases c0 : c = 120
                  · subst c0
                    exact ⟨0, 120, rfl, rfl, by decide, .inl ⟨rfl, rfl, by rw [ls, if_pos (show (120 :: r).head? = some 120 from rfl)]⟩⟩
                  · by_cases c1 : c = 121
                    · subst c1
                      exact ⟨1, 121, rfl, rfl, by decide, .inr ⟨rfl, rfl, by rw [ls, if_neg (show ¬ (121 :: r).head? = some 120 by simp)]⟩⟩
                    · exfalso
                      have : atXY (c :: r) = -1 := by
                        show (if c = 120 then (0 : Int) else if c = 121 then 1 else -1) = -1
                        rw [if_neg c0, if_neg c1]
                      lia
              rw [ej]
              have exy : ("xy" : Str) = mkS [120, 121] := by decide +kernel
              refine ⟨_, rfl, _, rfl, _, _, u, rfl, rfl, by rw [exy, mkS_len]; show 2 <= sizeLine; decide, by rw [exy]; exact atI_nat eu, ?_⟩
              refine ⟨fi, u, rfl, ai, uu, fun H6 s6 => ?_⟩
              dsimp only [gName, List.set]
              refine ⟨_, rfl, rfl, _, rfl, ?_⟩
              cases hk : facN u fi with
              | none =>
                refine iteT (qn H6 ?_ (sm.trans s6))
                have e : lstep fi st = none := by
                  rcases lu with ⟨_, rfl, z⟩ | ⟨_, rfl, z⟩
                  · rw [z, hk]; rfl
                  · rw [z, hk]; rfl
                rw [wN, tl]
                have dead : ∀ d, lrun fr (i + 1 + d) = none := fun d => by
                  induction d with
                  | zero => rw [Nat.add_zero, run, e]
                  | succ d ih =>
                    show (lrun fr (i + 1 + d)).bind _ = none
                    rw [ih]
                    rfl
                have il := (List.getElem?_eq_some_iff.mp ew).1
                have := dead (fr.length - (i + 1))
                rw [show i + 1 + (fr.length - (i + 1)) = fr.length by lia] at this
                rw [this]
                rfl
              | some k =>
                refine iteF ⟨_, rfl, _, rfl, _, rfl, pl, _, (j : Int), j, rfl, rfl, s6 _ _ hp5, ?_, ?_⟩
                · rcases lu with ⟨rfl, _⟩ | ⟨rfl, _⟩ <;> rfl
                refine ⟨_, rfl, ?_⟩
                have sm7 : Same H (upd H6 pl (HO.lst (([.int st.2.1, .int st.2.2] : List V).set j (.int k)))) := fun b o e => by
                  rw [upd_ne (ne_of_none e hplH)]
                  exact s6 _ _ (sm b o e)
                have hr7 : (upd H6 pl (HO.lst (([.int st.2.1, .int st.2.2] : List V).set j (.int k)))) rl = some (.lst (vsC fr)) := by rw [upd_ne nrp]; exact s6 _ _ hr5
                rcases lu with ⟨rfl, rfl, z⟩ | ⟨rfl, rfl, z⟩
                · exact ⟨(0, k, st.2.2), by rw [run, z, hk]; rfl, (by show (-1 : Int) <= 0; decide), ⟨_, _, _, rfl⟩, sm7, hr7, by rw [upd_same]; rfl⟩
                · exact ⟨(1, st.2.1, k), by rw [run, z, hk]; rfl, (by show (-1 : Int) <= 1; decide), ⟨_, _, _, rfl⟩, sm7, hr7, by rw [upd_same]; rfl⟩
          · rintro σ H5 ⟨st, rn, s1m, ⟨u1, u2, u3, rfl⟩, sm, hr5, hp5⟩
            refine hM _ _ ?_
            clear hM M
            rw [vr] at rn
            refine ⟨_, rfl, pl, _, _, _, rfl, rfl, SqL.of hp5, atI_nat (j := 0) rfl, _, rfl, pl, _, _, _, rfl, rfl, SqL.of hp5, atI_nat (j := 1) rfl, _, rfl, _, rfl, _, _, rfl, rfl, .inl (by rcases sb with rfl | rfl <;> exact ⟨by decide, by decide⟩), by show 3 <= sizeLine; decide, fun d hd => ?_⟩
            exact q (st.2.1, st.2.2, sg * n) d _ (by rw [wN, tl, rn]; rfl) (sm.trans (Same.new hd)) upd_same
        · rw [decide_eq_true (show (3 : Int) < ((fr.length + 1 : Nat) : Int) by lia)]
          exact iteT (qn H2 (by rw [wN]; exact term_many h2) (s1.trans s2)))
    clear hM
    refine ⟨_, rfl, _, rfl, _, rfl, a0.len, ?_⟩
    rw [show (some (1 : Int)) = some ((1 : Nat) : Int) from rfl, slice_to]
    refine ⟨rfl, _, rfl, ?_⟩
    rw [lit_dash, strs_dec]
    by_cases h45 : f0.head? = some 45
    · rw [decide_eq_true ((take_one f0).mpr h45)]
      refine iteT ?_
      refine ⟨_, rfl, ?_⟩
      dsimp only [gName, List.set]
      refine ⟨_, rfl, _, rfl, _, rfl, a0.len, ?_⟩
      rw [show (some (1 : Int)) = some ((1 : Nat) : Int) from rfl, slice_from, drop_tail h45]
      refine go (-1) f0.tail (by rw [<- drop_tail h45]; exact a0.drop 1) (.inr rfl) ?_
      unfold timesN
      rw [if_pos h45]
      congr 1
      funext n
      rw [Int.neg_one_mul]
    · rw [decide_eq_false (fun z => h45 ((take_one f0).mp z))]
      refine iteF (go 1 f0 a0 (.inl rfl) ?_)
      unfold timesN
      rw [if_neg h45]
      cases numN 60 f0 with
      | none => rfl
      | some n => show some n = some (1 * n); rw [Int.one_mul]
end
end My
namespace My
open PySem L2 PySem.NumText PyProof.Rows
def OptT (H : Hp) (v : V) (o : Option T3) : Prop := match o with
  | some t => TermAt H v t
  | none => v = .non
theorem OptT.same {H H' : Hp} {v : V} {o : Option T3} (h : OptT H v o) (s : Same H H') : OptT H' v o := by
  cases o with
  | none => exact h
  | some t => exact TermAt.same h s
theorem opts_same {H H' : Hp} {xs : List V} {os : List (Option T3)} (h : Paired (OptT H) xs os) (s : Same H H') : Paired (OptT H') xs os := L2.Paired.mapP h fun _ _ q => q.same s
theorem opts_noT {K : W.Frag} {H : Hp} {xs : List V} {os : List (Option T3)} (h : Paired (OptT H) xs os) : ∀ x ∈ xs, NoT K H x := by
  induction h with
  | nil => intro x hx; cases hx
  | @cons x o xs os r t ih =>
    intro y hy
    rcases List.mem_cons.mp hy with rfl | hy
    · cases o with
      | none => exact .inl r
      | some t =>
        obtain ⟨a, rfl, ha⟩ := r
        exact .inr ⟨a, _, rfl, SqT.of ha⟩
    · exact ih y hy
theorem opts_none {H : Hp} {ws : List (List Nat)} {xs : List V} (h : Paired (OptT H) xs (ws.map wordN)) : (V.non ∈ xs -> wordsN ws = none) /\ (V.non ∉ xs -> ∃ L, wordsN ws = some L /\ Paired (TermAt H) xs L) := by
  induction ws generalizing xs with
  | nil =>
    cases h
    exact ⟨(fun z => nomatch z), fun _ => ⟨[], rfl, .nil⟩⟩
  | cons w r ih =>
    cases h with
    | @cons x _ xs _ q t =>
      obtain ⟨i1, i2⟩ := ih t
      have e : wordsN (w :: r) = match wordN w, wordsN r with | some t, some ts => some (t :: ts) | _, _ => none := rfl
      cases hw : wordN w with
      | none =>
        rw [hw] at q
        have ex : x = .non := q
        subst ex
        refine ⟨fun _ => words_none List.mem_cons_self hw, fun z => absurd List.mem_cons_self z⟩
      | some tt =>
        rw [hw] at q
        have q' : TermAt H x tt := q
        have nx : V.non ≠ x := fun z => by
          obtain ⟨a, rfl, _⟩ := q'
          cases z
        refine ⟨fun z => ?_, fun z => ?_⟩
        · rcases List.mem_cons.mp z with z | z
          · exact absurd z nx
          · rw [e, hw, i1 z]
        · obtain ⟨L, hL, pL⟩ := i2 fun y => z (List.mem_cons_of_mem _ y)
          exact ⟨tt :: L, by rw [e, hw, hL], .cons q' pL⟩
def spLRead (K : W.Frag) : Sp := fun vs H Q _ => (∃ x, vs = [x] /\ Plain K H x /\ (∀ z, x ≠ .str z) /\ Q .non H) \/
  ∃ z, vs = [.str (mkS z)] /\ Asc z /\ (∀ (L : List T3) v H', readN z = some L -> Same H H' -> PolyAt H' v L -> Q v H') /\ ∀ H', readN z = none -> Same H H' -> Q .non H'
section
variable {P : Program} {w : World} {K : W.Frag} {mg : Str -> Option Value} {base : Heap}
theorem scLRead : FnScope ["_law_text_here", "_law_terms", "_law_k"] ["_law_text_here"] (defScope sLRead) := ⟨rfl, rfl, rfl, by decide +kernel, rfl, by decide +kernel, by decide +kernel⟩
theorem ndlw : (["_law_word"] : List Str).Nodup := by decide +kernel
theorem d_lread (T : TxP mg) (T2 : Tx26 mg) (tr : mg "range" = none) (S : Src K mg "_law_read" sLRead ["_law_text_here"]) (DT : Def P w K mg base 3 "_law_read_term" ["_law_text_here"] spLTerm) : Def P w K mg base 4 "_law_read" ["_law_text_here"] (spLRead K) := by
  refine S.def scLRead (fun vs H Q E h => ?_) (fun f cdv A outer s H vs Q E hr h => ?_)
  · rcases h with ⟨_, rfl, _⟩ | ⟨_, rfl, _⟩ <;> rfl
  · refine ⟨_, pss_cons (ps_if (pt_not (pt_val (pe_callB (call_isiK K) (by rfl) T.isi boot_isi (pa_cons (pv 0) (pa_cons (pe_bltn (v := .ty "str") rfl T2.str boot_str' rfl) pa_nil))))) (pss_one (ps_ret pe_non)) pss_nil)
      (pss_cons (ps_if (pt_cmpR op_eq (pv 0) pe_str (nomark _)) (pss_one (ps_ret (pe_tup pa_nil))) pss_nil)
      (pss_cons (ps_setComp (i := 1) scLRead.nd rfl (Or.inl rfl) (N' := ["_law_word"]) (fr := [none]) (compOk_of (by rfl)) rfl (pi_seqK K .l (pe_bm PySem.F.plainAttrs_str PySem.F.slot_str_split PySem.F.type_str_split mt_splitG (pv 0) (pa_cons pe_str pa_nil)))
        (fun _ _ _ _ => pg_name (i := 0) ndlw rfl (Or.inl rfl) (Or.inr rfl)) (fun _ _ _ _ => pifs_nil) (fun _ _ _ _ => pe_def DT hr rfl (pa_cons (pv 0) pa_nil)))
      (pss_cons (ps_if (PW.pt (pw_or (pt_cmpR (op_inN (units66 hr)) pe_non (pv 1) rfl) (pw_or1 (pt_cmpR op_gt (pe_callB (call_lenK K) (by rfl) T.len PySem.boot_len (pa_cons (pv 1) pa_nil)) pe_int (nomark _))))) (pss_one (ps_ret pe_non)) pss_nil)
      (pss_cons (ps_for PassesOwn.never rfl (pi_range2 rfl tr (pa_cons pe_int (pa_cons (pe_callB (call_lenK K) (by rfl) T.len PySem.boot_len (pa_cons (pv 1) pa_nil)) pa_nil))) (pg_name (i := 2) scLRead.nd rfl (Or.inl rfl))
        (pss_one (ps_if (pt_cmpR (op_geTK K (units66 hr)) (pe_slice (sl_tupK K) (pe_ix (ix_listK K) (pv 1) (pe_op op_sub (pv 2) pe_int) (fun _ _ => rfl)) po_none (po_some pe_int)) (pe_slice (sl_tupK K) (pe_ix (ix_listK K) (pv 1) (pv 2) (fun _ _ => rfl)) po_none (po_some pe_int)) (nomark _)) (pss_one (ps_ret pe_non)) pss_nil)))
      (pss_one (ps_ret (pe_callTy (call_tuple_ofK K) rfl T.tuple boot_tuple' (pa_cons (pv 1) pa_nil)))))))), ?_⟩
    rcases h with ⟨x, rfl, ⟨ty, px, pn⟩, nx, q⟩ | ⟨z, rfl, as, q, qn⟩
    · exact ⟨_, rfl, _, _, _, _, _, rfl, rfl, px, kit_str px pn nx, _, rfl, iteT q⟩
    · refine ⟨_, rfl, _, _, _, _, _, rfl, rfl, .str _, k_str K, _, rfl, iteF ?_⟩
      refine ⟨_, rfl, rfl, _, rfl, ?_⟩
      rw [lit_zero, strs_dec]
      by_cases h0 : z = [48]
      · rw [decide_eq_true h0]
        refine iteT ⟨Nat.zero_le _, fun c hc => ?_⟩
        exact q [] (.ref c) _ (if_pos h0) (Same.new hc) ⟨c, [], rfl, upd_same, .nil⟩
      rw [decide_eq_false h0]
      refine iteF ?_
      have z9 := as.2
      have wl := splitC_len z [32, 43, 32]
      have asc : ∀ p ∈ splitC z [32, 43, 32], Asc p := fun p hp => as.part hp
      have rd : readN z = if (splitC z [32, 43, 32]).length <= 100 then (match wordsN (splitC z [32, 43, 32]) with | some L => if upN3 L = true then some L else none | none => none) else none := if_neg h0
      refine ⟨_, rfl, rfl, _, _, splitP (mkS z) (mkS [32, 43, 32]), rfl, congrArg (fun z => [V.str z]) lit_plus, kind_sep', rfl, by rw [mkS_len]; lia, split_ok as, splitIs_P _ _, fun wa hwa => ?_⟩
      rw [split_vs]
      generalize splitC z [32, 43, 32] = ws at wl asc rd ⊢
      have s1 := Same.new (o := HO.lst (vsC ws)) hwa
      have h1 : (upd H wa (HO.lst (vsC ws))) wa = some (.lst (vsC ws)) := upd_same
      generalize upd H wa (HO.lst (vsC ws)) = H1 at s1 h1 ⊢
      have vl : (vsC ws).length = ws.length := List.length_map ..
      refine ⟨wa, rfl, ⟨_, SqL.of h1⟩, comp_seq (k := .l) (a := wa) (xs := vsC ws) (fun σ => ∃ v, σ = [v]) (fun i ys H5 => Same H1 H5 /\ Paired (OptT H5) ys ((ws.take i).map wordN)) ⟨_, rfl⟩ ⟨Same.refl _, .nil⟩ (by rw [vl]; exact lt_line (by lia)) (fun i ys H5 _ z => SqL.of (z.1 _ _ h1)) ?_ ?_⟩
      · rintro j v ys σ H5 N hx ⟨u, rfl⟩ ⟨sm, hy⟩ hN
        unfold vsC at hx
        rw [List.getElem?_map] at hx
        cases ew : ws[j]? with
        | none => rw [ew] at hx; cases hx
        | some wj =>
          rw [ew] at hx
          cases hx
          dsimp only [gName, List.set]
          refine yesT ?_
          refine ⟨_, rfl, wj, rfl, asc wj (List.mem_of_getElem? ew), fun p d H6 hp s6 hd => ?_, fun H6 hp s6 => ?_⟩
          · refine hN _ _ _ ⟨_, rfl⟩ ⟨sm.trans s6, ?_⟩ (by simp)
            rw [take_succ_of ew, List.map_append]
            refine L2.Paired.snoc (opts_same hy s6) ?_
            rw [hp]
            exact ⟨d, rfl, hd⟩
          · refine hN _ _ _ ⟨_, rfl⟩ ⟨sm.trans s6, ?_⟩ (by simp)
            rw [take_succ_of ew, List.map_append]
            refine L2.Paired.snoc (opts_same hy s6) ?_
            rw [hp]
            rfl
      · rintro ys H2 ⟨sm, hy⟩ tl htl
        rw [vl, List.take_length] at hy
        have s2 := Same.new (o := HO.lst ys) htl
        have h2 : (upd H2 tl (.lst ys)) tl = some (.lst ys) := upd_same
        replace hy := opts_same hy s2
        have s02 := s1.trans (sm.trans s2)
        generalize upd H2 tl (.lst ys) = H3 at s2 h2 hy s02 ⊢
        have yl : ys.length = ws.length := by have := Paired.length hy; rw [List.length_map] at this; exact this
        obtain ⟨on1, on2⟩ := opts_none hy
        dsimp only [gName, List.set]
        refine ⟨_, rfl, tl, ys, rfl, rfl, SqL.of h2, opts_noT hy, _, rfl, ?_⟩
        by_cases hno : V.non ∈ ys
        · rw [decide_eq_true hno]
          refine iteT (iteT (qn H3 ?_ s02))
          rw [rd, on1 hno]
          split <;> rfl
        rw [decide_eq_false hno]
        obtain ⟨L, hL, py⟩ := on2 hno
        have Ll := words_len hL
        rw [hL] at rd
        refine iteF ⟨_, rfl, tl, ys, rfl, .inl (SqL.of h2), _, _, rfl, rfl, _, rfl, ?_⟩
        rw [yl]
        by_cases h100 : ws.length <= 100
        · rw [decide_eq_false (show ¬ (100 : Int) < (ws.length : Int) by lia)]
          refine iteF ?_
          replace rd : readN z = if upN3 L = true then some L else none := by rw [rd, if_pos h100]
          refine seq_abs fun M0 hM0 => hM0 _ _ ?_
          clear hM0 M0
          refine seq_abs fun M hM => ?_
          refine ⟨_, rfl, tl, ys, rfl, .inl (SqL.of h2), 1, (ys.length : Int), rfl, ⟨by decide, by decide, by lia, by lia⟩, ?_⟩
          refine for_range (lo := 1) (n := ((ys.length : Int) - 1).toNat) (fun i σ H' => (∃ u, σ = [some (.str (mkS z)), some (.ref tl), u]) /\ Same H3 H' /\ ∀ j, j < i -> ∀ a b : T3, L[j]? = some a -> L[j + 1]? = some b -> keyLt a b) ⟨⟨_, rfl⟩, Same.refl _, fun j hj => absurd hj (Nat.not_lt_zero j)⟩ ?_ ?_
          · rintro i σ H5 il ⟨⟨u, rfl⟩, sm5, up⟩
            have il' : i + 1 < ys.length := by lia
            have e1 : L[i]? = some L[i] := List.getElem?_eq_getElem (by lia)
            have e2 : L[i + 1]? = some L[i + 1] := List.getElem?_eq_getElem (by lia)
            generalize L[i] = t1 at e1
            generalize L[i + 1] = t2 at e2
            have gx : ys[i]? = some ys[i] := List.getElem?_eq_getElem (by lia)
            have gy : ys[i + 1]? = some ys[i + 1] := List.getElem?_eq_getElem (by lia)
            generalize ys[i] = x at gx
            generalize ys[i + 1] = y at gy
            obtain ⟨t1', f1, b1, rfl, hb1⟩ := Paired.at py gx
            obtain ⟨t2', f2, b2, rfl, hb2⟩ := Paired.at py gy
            rw [e1] at f1
            rw [e2] at f2
            cases f1
            cases f2
            dsimp only [gName, List.set]
            refine ⟨_, rfl, _, rfl, _, _, rfl, rfl, tl, _, _, _, rfl, rfl, SqL.of (sm5 _ _ h2), (by rw [show (1 : Int) + (i : Int) - 1 = ((i : Nat) : Int) by lia]; exact atI_nat gx), _, rfl, b1, _, rfl, SqT.of (sm5 _ _ hb1), not2 _ _ _, fun p1 hp1 => ?_⟩
            rw [cut2]
            have s7 := Same.new (o := HO.tup [.int t1.1, .int t1.2.1]) hp1
            have h7 : (upd H5 p1 (.tup [.int t1.1, .int t1.2.1])) p1 = some (.tup [.int t1.1, .int t1.2.1]) := upd_same
            generalize upd H5 p1 (.tup [.int t1.1, .int t1.2.1]) = H7 at s7 h7 ⊢
            refine ⟨_, rfl, _, rfl, tl, _, _, _, rfl, rfl, SqL.of (s7 _ _ (sm5 _ _ h2)), (by rw [show (1 : Int) + (i : Int) = ((i + 1 : Nat) : Int) by lia]; exact atI_nat gy), _, rfl, b2, _, rfl, SqT.of (s7 _ _ (sm5 _ _ hb2)), not2 _ _ _, fun p2 hp2 => ?_⟩
            rw [cut2]
            have s8 := Same.new (o := HO.tup [.int t2.1, .int t2.2.1]) hp2
            refine ⟨p1, p2, [t1.1, t1.2.1], [t2.1, t2.2.1], rfl, rfl, SqT.of (s8 _ _ h7), SqT.of upd_same, _, rfl, ?_⟩
            have s58 := (sm5.trans s7).trans s8
            by_cases lt : keyLt t1 t2
            · rw [keyLt_ge lt]
              refine iteF ⟨⟨_, rfl⟩, s58, fun j hj a b ha hb => ?_⟩
              by_cases hji : j = i
              · subst hji
                rw [e1] at ha
                rw [e2] at hb
                cases ha
                cases hb
                exact lt
              · exact up j (by lia) a b ha hb
            · rw [ge_yes lt]
              exact iteT (qn _ (by rw [rd, if_neg fun z => lt (up_at.mp z i t1 t2 e1 e2)]) (s02.trans s58))
          · rintro σ H5 ⟨⟨u, rfl⟩, sm5, up⟩
            refine hM _ _ ?_
            clear hM M
            refine ⟨_, rfl, tl, ys, rfl, .inl ⟨SqL.of (sm5 _ _ h2), fun r hr' => ?_⟩⟩
            have s6 := Same.new (o := HO.tup ys) hr'
            refine q L (.ref r) _ ?_ ((s02.trans sm5).trans s6) ⟨r, ys, rfl, upd_same, terms_same py (sm5.trans s6)⟩
            rw [rd, if_pos]
            refine up_at.mpr fun i a b ha hb => up i ?_ a b ha hb
            have := (List.getElem?_eq_some_iff.mp hb).1
            lia
        · rw [decide_eq_true (show (100 : Int) < (ws.length : Int) by lia)]
          exact iteT (qn H3 (by rw [rd, if_neg h100]) s02)
end
end My
namespace My
open PySem L2 PySem.NumText PyProof.Rows
open PySem.W (subIn kitOne kitAny)
structure Exc27 (K : W.Frag) (mg : Str -> Option Value) (C : Addr) (n : Fin 10 -> Addr) (o : Fin 4 -> Addr) (W : Addr) (bW : List Value) : Prop where
  s0 : mg "NoText" = some (.ref C)
  n0 : mg "NoDrawing" = some (.ref (n 0))
  n1 : mg "NoName" = some (.ref (n 1))
  n2 : mg "NoNumber" = some (.ref (n 2))
  n3 : mg "NoOrder" = some (.ref (n 3))
  n4 : mg "NoPlaces" = some (.ref (n 4))
  n5 : mg "NoPoint" = some (.ref (n 5))
  n6 : mg "NoRow" = some (.ref (n 6))
  n7 : mg "NoSuch" = some (.ref (n 7))
  n8 : mg "NoTie" = some (.ref (n 8))
  n9 : mg "NotApart" = some (.ref (n 9))
  o0 : mg "NotJoined" = some (.ref (o 0))
  o1 : mg "NotPlane" = some (.ref (o 1))
  o2 : mg "NoWeb" = some (.ref (o 2))
  o3 : mg "TooMany" = some (.ref (o 3))
  hw : mg "WebError" = some (.ref W)
  ve : mg "ValueError" = none
  xw : excB K W bW = true
  kx : excKB K C = true
  sb : subIn K (.ref C) (.ref W) = some true
  yv : kitOne K (.ref C) (.type "ValueError") = some true
  yc : kitOne K (.ref C) (.ref C) = some true
  a10 : kitAny K (.ref C) [.ref (n 0), .ref (n 1), .ref (n 2), .ref (n 3), .ref (n 4), .ref (n 5), .ref (n 6), .ref (n 7), .ref (n 8), .ref (n 9)] = some false
  a4 : kitAny K (.ref C) [.ref (o 0), .ref (o 1), .ref (o 2), .ref (o 3)] = some false
theorem boot_ve : bootBuiltins "ValueError" = some (.type "ValueError") := by first | rfl | decide +kernel
theorem vals_refs {l : List Addr} : ∀ {us : List Value}, Vals (l.map V.ref) us -> us = l.map Value.ref := by
  induction l with
  | nil => intro us h; exact Vals.zero h
  | cons a l ih =>
    intro us h
    cases h with
    | cons r t => rw [ih t, show _ = Value.ref a from r]; rfl
def spOnly (C : Addr) : Sp := fun vs H Q _ => ∃ ea : Addr, vs = [.ref ea] /\ H ea = some (excP ea C none) /\ ∀ H', Same H H' -> Q (.bl true) H'
def Any27 (K : W.Frag) (H : Hp) (x : V) : Prop := (Plain K H x /\ ∀ z, x ≠ .str z) \/ ∃ z, x = .str (mkS z) /\ Asc z
def spRefd (K : W.Frag) : Sp := fun vs H Q _ => ∃ x, vs = [x] /\ ((Plain K H x /\ ∀ z, x ≠ .str z) \/ ∃ z, x = .str (mkS z) /\ Asc z /\ readN z = none) /\ ∀ H', Same H H' -> Q (.bl true) H'
def spRight (K : W.Frag) : Sp := fun vs H Q _ => ∃ x, vs = [x] /\ Any27 K H x /\ ∀ H', Same H H' -> Q (.bl true) H'
section
variable {P : Program} {w : World} {K : W.Frag} {mg : Str -> Option Value} {base : Heap} {C : Addr} {n : Fin 10 -> Addr} {o : Fin 4 -> Addr} {Wc : Addr} {bW : List Value}
theorem scOnly : FnScope ["_law_e"] ["_law_e"] (defScope sOnly) := ⟨rfl, rfl, rfl, by decide +kernel, rfl, by decide +kernel, by decide +kernel⟩
theorem d_only (T : TxP mg) (X : Exc27 K mg C n o Wc bW) (S : Src K mg "_law_only" sOnly ["_law_e"]) : DefH P w K mg base 1 "_law_only" ["_law_e"] (spOnly C) := by
  refine S.defH scOnly (fun vs H Q E h => ?_) (fun f cdv A outer s H vs Q E hr h => ?_)
  · obtain ⟨_, rfl, _⟩ := h; rfl
  · obtain ⟨ea, rfl, he, q⟩ := h
    refine ⟨_, pss_cons (ps_if (pt_val (pe_callB (r := rIsPs K) call_isPs (by rfl) T.isi boot_isi (pa_cons (pv 0) (pa_cons (pe_tup (pa_cons (pe_glob (v := .ref (n 0)) rfl X.n0 rfl) (pa_cons (pe_glob (v := .ref (n 1)) rfl X.n1 rfl) (pa_cons (pe_glob (v := .ref (n 2)) rfl X.n2 rfl) (pa_cons (pe_glob (v := .ref (n 3)) rfl X.n3 rfl) (pa_cons (pe_glob (v := .ref (n 4)) rfl X.n4 rfl) (pa_cons (pe_glob (v := .ref (n 5)) rfl X.n5 rfl) (pa_cons (pe_glob (v := .ref (n 6)) rfl X.n6 rfl) (pa_cons (pe_glob (v := .ref (n 7)) rfl X.n7 rfl) (pa_cons (pe_glob (v := .ref (n 8)) rfl X.n8 rfl) (pa_cons (pe_glob (v := .ref (n 9)) rfl X.n9 rfl) pa_nil))))))))))) pa_nil)))) (pss_one (ps_ret pe_bl)) pss_nil)
      (pss_cons (ps_if (pt_val (pe_callB (r := rIsPs K) call_isPs (by rfl) T.isi boot_isi (pa_cons (pv 0) (pa_cons (pe_tup (pa_cons (pe_glob (v := .ref (o 0)) rfl X.o0 rfl) (pa_cons (pe_glob (v := .ref (o 1)) rfl X.o1 rfl) (pa_cons (pe_glob (v := .ref (o 2)) rfl X.o2 rfl) (pa_cons (pe_glob (v := .ref (o 3)) rfl X.o3 rfl) pa_nil))))) pa_nil)))) (pss_one (ps_ret pe_bl)) pss_nil)
      (pss_one (ps_ret (pe_and (pe_callB (r := rIsP K) call_isP (by rfl) T.isi boot_isi (pa_cons (pv 0) (pa_cons (pe_glob (v := .ref C) rfl X.s0 rfl) pa_nil))) (pe_one (pe_callB (r := rIsP K) call_isP (by rfl) T.isi boot_isi (pa_cons (pv 0) (pa_cons (pe_bltn (v := .ty "ValueError") rfl X.ve boot_ve rfl) pa_nil)))))))), ?_⟩
    have Z := L2.excK_of X.kx
    refine ⟨_, rfl, by show 10 <= sizeLine; decide, fun p1 hp1 => ?_⟩
    have s1 := Same.new (o := HO.tup [.ref (n 0), .ref (n 1), .ref (n 2), .ref (n 3), .ref (n 4), .ref (n 5), .ref (n 6), .ref (n 7), .ref (n 8), .ref (n 9)]) hp1
    refine ⟨ea, C, p1, none, [.ref (n 0), .ref (n 1), .ref (n 2), .ref (n 3), .ref (n 4), .ref (n 5), .ref (n 6), .ref (n 7), .ref (n 8), .ref (n 9)], false, rfl, SqT.of upd_same, s1 _ _ he, Z, fun us r => by rw [vals_refs (l := [n 0, n 1, n 2, n 3, n 4, n 5, n 6, n 7, n 8, n 9]) r]; exact X.a10, ?_⟩
    replace he := s1 _ _ he
    generalize upd H p1 (HO.tup [.ref (n 0), .ref (n 1), .ref (n 2), .ref (n 3), .ref (n 4), .ref (n 5), .ref (n 6), .ref (n 7), .ref (n 8), .ref (n 9)]) = H1 at s1 he ⊢
    refine ⟨_, rfl, iteF ?_⟩
    refine ⟨_, rfl, by show 4 <= sizeLine; decide, fun p2 hp2 => ?_⟩
    have s2 := Same.new (o := HO.tup [.ref (o 0), .ref (o 1), .ref (o 2), .ref (o 3)]) hp2
    refine ⟨ea, C, p2, none, [.ref (o 0), .ref (o 1), .ref (o 2), .ref (o 3)], false, rfl, SqT.of upd_same, s2 _ _ he, Z, fun us r => by rw [vals_refs (l := [o 0, o 1, o 2, o 3]) r]; exact X.a4, ?_⟩
    replace he := s2 _ _ he
    replace s1 := s1.trans s2
    generalize upd H1 p2 (HO.tup [.ref (o 0), .ref (o 1), .ref (o 2), .ref (o 3)]) = H2 at s1 he ⊢
    refine ⟨_, rfl, iteF ?_⟩
    exact ⟨_, rfl, ea, C, none, _, _, _, rfl, rfl, he, Z, X.yc, _, rfl, iteT ⟨_, rfl, ea, C, none, _, _, _, rfl, rfl, he, Z, X.yv, q H2 s1⟩⟩
theorem scRefd : FnScope ["_law_thing", "_law_e"] ["_law_thing"] (defScope sRefd) := ⟨rfl, rfl, rfl, by decide +kernel, rfl, by decide +kernel, by decide +kernel⟩
theorem d_refd (X : Exc27 K mg C n o Wc bW) (S : Src K mg "_law_refused" sRefd ["_law_thing"]) (DR : DefQ P w K mg base 4 "read_poly" ["text"] (spPolyQ K C)) (DO : DefH P w K mg base 1 "_law_only" ["_law_e"] (spOnly C)) : Def P w K mg base 5 "_law_refused" ["_law_thing"] (spRefd K) := by
  refine S.def scRefd (fun vs H Q E h => ?_) (fun f cdv A outer s H vs Q E hr h => ?_)
  · obtain ⟨_, rfl, _⟩ := h; rfl
  · obtain ⟨x, rfl, hx, q⟩ := h
    refine ⟨_, pss_cons (ps_tryQ (i := 1) rfl X.hw X.xw scRefd.nd rfl rfl (pxqs_one (pxq_call DR hr rfl (pa_cons (pv 0) pa_nil) (fun _ _ z => z))) (fun v => pss_one (ps_ret (pe_defH DO (Room.marked (hr.mono (by decide))) rfl (pa_cons (pv 1) pa_nil)))) rfl rfl) (pss_one (ps_ret pe_bl)), ?_⟩
    refine ⟨_, rfl, ?_⟩
    dsimp only [tNil, List.append_nil]
    have exc : ∀ H', Same H H' -> ∀ ea, H' ea = none -> spOnly C [.ref ea] (upd H' ea (excP ea C none)) Q E0 := fun H' s' ea hea => ⟨ea, rfl, upd_same, fun H2 s2 => q H2 ((s'.trans (Same.new hea)).trans s2)⟩
    rcases hx with ⟨px, nx⟩ | ⟨z, rfl, as, rn⟩
    · exact .inl ⟨x, rfl, px, nx, fun H' s' => ⟨_, rfl, X.sb, fun ea hea => ⟨_, rfl, exc H' s' ea hea⟩⟩⟩
    · exact .inr ⟨z, rfl, as, (fun L v H' e => by rw [rn] at e; cases e), fun H' _ s' => ⟨_, rfl, X.sb, fun ea hea => ⟨_, rfl, exc H' s' ea hea⟩⟩⟩
theorem scRight : FnScope ["_law_thing", "_law_due"] ["_law_thing"] (defScope sRight) := ⟨rfl, rfl, rfl, by decide +kernel, rfl, by decide +kernel, by decide +kernel⟩
theorem d_right (S : Src K mg "_law_right" sRight ["_law_thing"]) (DL : Def P w K mg base 4 "_law_read" ["_law_text_here"] (spLRead K)) (DE : Def P w K mg base 5 "_law_refused" ["_law_thing"] (spRefd K)) (DR : DefQ P w K mg base 4 "read_poly" ["text"] (spPolyQ K C)) : Def P w K mg base 6 "_law_right" ["_law_thing"] (spRight K) := by
  refine S.def scRight (fun vs H Q E h => ?_) (fun f cdv A outer s H vs Q E hr h => ?_)
  · obtain ⟨_, rfl, _⟩ := h; rfl
  · obtain ⟨x, rfl, hx, q⟩ := h
    have hr4 : Room 4 _ := hr.mono (by decide)
    refine ⟨_, pss_cons (ps_set (i := 1) scRight.nd rfl (Or.inl rfl) (pe_def DL hr4 rfl (pa_cons (pv 0) pa_nil)))
      (pss_cons (ps_if (pt_cmpR op_isN (pv 1) pe_non (nomark _)) (pss_one (ps_ret (pe_def DE hr rfl (pa_cons (pv 0) pa_nil)))) pss_nil)
      (pss_one (ps_ret (pe_cmpR (op_eqSK K (units66 hr)) (pe_defQ DR hr4 rfl (pa_cons (pv 0) pa_nil)) (pv 1) (nomark _))))), ?_⟩
    refine ⟨_, rfl, ?_⟩
    dsimp only [tNil, List.append_nil]
    rcases hx with ⟨px, nx⟩ | ⟨z, rfl, as⟩
    · refine .inl ⟨x, rfl, px, nx, ?_⟩
      dsimp only [gName, List.set]
      exact ⟨_, rfl, rfl, _, rfl, iteT ⟨_, rfl, x, rfl, .inl ⟨px, nx⟩, q⟩⟩
    · refine .inr ⟨z, rfl, as, fun L v H1 rn s1 hv => ?_, fun H1 rn s1 => ?_⟩
      · dsimp only [gName, List.set]
        refine ⟨_, rfl, rfl, _, rfl, ?_⟩
        have nv : ¬ v = .non := fun e => by
          obtain ⟨c, xs, ec, _⟩ := hv.ex
          rw [ec] at e
          cases e
        rw [decide_eq_false nv]
        refine iteF ⟨_, rfl, ?_⟩
        dsimp only [tNil, List.append_nil]
        refine .inr ⟨z, rfl, as, fun L' v' H2 rn' s2 hv' => ?_, fun H2 rn' _ => by rw [rn] at rn'; cases rn'⟩
        rw [rn] at rn'
        cases rn'
        exact ⟨_, rfl, same_poly hv' (hv.same s2) (q H2 (s1.trans s2))⟩
      · dsimp only [gName, List.set]
        exact ⟨_, rfl, rfl, _, rfl, iteT ⟨_, rfl, .str (mkS z), rfl, .inr ⟨z, rfl, as, rn⟩, fun H2 s2 => q H2 (s1.trans s2)⟩⟩
end
end My
namespace My
open PySem L2 PySem.NumText PyProof.Rows
def odds : List Str := [("" : Str), (" " : Str), ("00" : Str), ("-0" : Str), ("+1" : Str), ("1 " : Str), (" 1" : Str), ("01" : Str), ("1*x^1" : Str), ("1*x^0" : Str), ("1*y*x" : Str), ("x" : Str), ("1x" : Str), ("1*x^02" : Str), ("1*x^2 " : Str), ("1*x*x" : Str), ("1+2*x" : Str), ("1 +2*x" : Str), ("1 +  2*x" : Str), ("1 + 2*x + " : Str), ("2*x + 1" : Str), ("1*x + 1*x" : Str), ("1_0" : Str), ("1\n" : Str), ("1\t" : Str), ("--1" : Str), ("1*X" : Str), ("1*x^-2" : Str), ("1*x^2^2" : Str), ("1**x" : Str), ("1*" : Str), ("*x" : Str), ("1 + 0*x" : Str), ("0 + 1*x" : Str), ("1 - 2*x" : Str), ("1*z" : Str), ("1*x^" : Str), ("1*xy" : Str), ("1*x^ 2" : Str)]
def ascB (s : Str) : Bool := s.cps.toList.all (fun c => decide (c < 128)) && decide (s.cps.toList.length <= 9000)
theorem odds_asc : odds.all ascB = true := by decide +kernel
theorem asc_of {s : Str} (h : ascB s = true) : ∃ z, s = mkS z /\ Asc z := by
  unfold ascB at h
  rw [Bool.and_eq_true, List.all_eq_true] at h
  exact ⟨s.cps.toList, (mkS_cps s).symm, fun c hc => of_decide_eq_true (h.1 c hc), of_decide_eq_true h.2⟩
theorem any_str {K : W.Frag} {H : Hp} {s : Str} (h : ascB s = true) : Any27 K H (.str s) := by
  obtain ⟨z, rfl, hz⟩ := asc_of h
  exact .inr ⟨z, rfl, hz⟩
def spMk (K : W.Frag) : Sp := fun vs H Q _ => ∃ c : Int, vs = [.int c] /\ ∀ x H', Same H H' -> Any27 K H' x -> Q x H'
theorem at_mod {xs : List V} {c : Int} (h : 0 < xs.length) : ∃ x, atI xs (c % (xs.length : Int)) = some x /\ x ∈ xs := by
  have b := mod_in c (xs.length : Int) (by lia)
  obtain ⟨j, ej⟩ : ∃ j : Nat, c % (xs.length : Int) = (j : Int) := ⟨(c % (xs.length : Int)).toNat, by lia⟩
  rw [ej] at b ⊢
  have jl : j < xs.length := by lia
  exact ⟨xs[j], atI_nat (List.getElem?_eq_getElem jl), List.getElem_mem jl⟩
section
variable {P : Program} {w : World} {K : W.Frag} {mg : Str -> Option Value} {base : Heap}
seal PSs PS PE PI PA PT PG
theorem scOdd : FnScope ["_law_cell", "_law_some"] ["_law_cell"] (defScope sOdd) := ⟨rfl, rfl, rfl, by decide +kernel, rfl, by decide +kernel, by decide +kernel⟩
theorem d_odd (T : TxP mg) (S : Src K mg "_law_odd" sOdd ["_law_cell"]) : Def P w K mg base 1 "_law_odd" ["_law_cell"] (spMk K) := by
  refine S.def scOdd (fun vs H Q E h => ?_) (fun f cdv A outer s H vs Q E hr h => ?_)
  · obtain ⟨_, rfl, _⟩ := h; rfl
  · obtain ⟨c, rfl, q⟩ := h
    refine ⟨_, pss_cons (ps_set (i := 1) scOdd.nd rfl (Or.inl rfl) (pe_lst (pa_cons pe_str (pa_cons pe_str (pa_cons pe_str (pa_cons pe_str (pa_cons pe_str (pa_cons pe_str (pa_cons pe_str (pa_cons pe_str (pa_cons pe_str (pa_cons pe_str (pa_cons pe_str (pa_cons pe_str (pa_cons pe_str (pa_cons pe_str (pa_cons pe_str pa_nil)))))))))))))))))
      (pss_cons (ps_set (i := 1) scOdd.nd rfl (Or.inl rfl) (pe_op op_cat (pv 1) (pe_lst (pa_cons pe_str (pa_cons pe_str (pa_cons pe_str (pa_cons pe_str (pa_cons pe_str (pa_cons pe_str (pa_cons pe_str (pa_cons pe_str (pa_cons pe_str (pa_cons pe_str pa_nil)))))))))))))
      (pss_cons (ps_set (i := 1) scOdd.nd rfl (Or.inl rfl) (pe_op op_cat (pv 1) (pe_lst (pa_cons pe_str (pa_cons pe_str (pa_cons pe_str (pa_cons pe_str (pa_cons pe_str (pa_cons pe_str (pa_cons pe_str (pa_cons pe_str (pa_cons pe_str (pa_cons pe_str (pa_cons pe_str pa_nil))))))))))))))
      (pss_cons (ps_set (i := 1) scOdd.nd rfl (Or.inl rfl) (pe_op op_cat (pv 1) (pe_lst (pa_cons pe_str (pa_cons pe_str (pa_cons pe_str (pa_cons pe_non (pa_cons pe_int (pa_cons pe_bl (pa_cons (pe_lst pa_nil) (pa_cons (pe_tup (pa_cons pe_str pa_nil)) (pa_cons pe_dict0 (pa_cons pe_int (pa_cons (pe_lst (pa_cons pe_str pa_nil)) pa_nil))))))))))))))
      (pss_one (ps_ret (pe_ix (ix_listK K) (pv 1) (pe_op op_mod (pv 0) (pe_callB (call_lenK K) (by rfl) T.len PySem.boot_len (pa_cons (pv 1) pa_nil))) (fun _ _ => rfl))))))), ?_⟩
    have sm : Same H H := Same.refl H
    refine ⟨by show 15 <= sizeLine; decide, fun l1 hl1 => ?_⟩
    have t1 := Same.new (o := HO.lst [.str "", .str " ", .str "00", .str "-0", .str "+1", .str "1 ", .str " 1", .str "01", .str "1*x^1", .str "1*x^0", .str "1*y*x", .str "x", .str "1x", .str "1*x^02", .str "1*x^2 "]) hl1
    have b1 : (upd H l1 (HO.lst [.str "", .str " ", .str "00", .str "-0", .str "+1", .str "1 ", .str " 1", .str "01", .str "1*x^1", .str "1*x^0", .str "1*y*x", .str "x", .str "1x", .str "1*x^02", .str "1*x^2 "])) l1 = some (HO.lst [.str "", .str " ", .str "00", .str "-0", .str "+1", .str "1 ", .str " 1", .str "01", .str "1*x^1", .str "1*x^0", .str "1*y*x", .str "x", .str "1x", .str "1*x^02", .str "1*x^2 "]) := upd_same
    replace sm := sm.trans t1
    clear t1
    generalize upd H l1 (HO.lst [.str "", .str " ", .str "00", .str "-0", .str "+1", .str "1 ", .str " 1", .str "01", .str "1*x^1", .str "1*x^0", .str "1*y*x", .str "x", .str "1x", .str "1*x^02", .str "1*x^2 "]) = G1 at b1 sm ⊢
    dsimp only [gName, List.set]
    refine ⟨_, rfl, by show 10 <= sizeLine; decide, fun r2 hr2 => ?_⟩
    have t2 := Same.new (o := HO.lst [.str "1*x*x", .str "1+2*x", .str "1 +2*x", .str "1 +  2*x", .str "1 + 2*x + ", .str "2*x + 1", .str "1*x + 1*x", .str "1_0", .str "1\n", .str "1\t"]) hr2
    have c2 : (upd G1 r2 (HO.lst [.str "1*x*x", .str "1+2*x", .str "1 +2*x", .str "1 +  2*x", .str "1 + 2*x + ", .str "2*x + 1", .str "1*x + 1*x", .str "1_0", .str "1\n", .str "1\t"])) r2 = some (HO.lst [.str "1*x*x", .str "1+2*x", .str "1 +2*x", .str "1 +  2*x", .str "1 + 2*x + ", .str "2*x + 1", .str "1*x + 1*x", .str "1_0", .str "1\n", .str "1\t"]) := upd_same
    replace b1 := t2 _ _ b1
    replace sm := sm.trans t2
    clear t2
    generalize upd G1 r2 (HO.lst [.str "1*x*x", .str "1+2*x", .str "1 +2*x", .str "1 +  2*x", .str "1 + 2*x + ", .str "2*x + 1", .str "1*x + 1*x", .str "1_0", .str "1\n", .str "1\t"]) = G2 at b1 c2 sm ⊢
    refine ⟨l1, r2, _, _, rfl, rfl, b1, c2, by show 25 <= sizeLine; decide, fun l2 hl2 => ?_⟩
    have t3 := Same.new (o := HO.lst ([.str "", .str " ", .str "00", .str "-0", .str "+1", .str "1 ", .str " 1", .str "01", .str "1*x^1", .str "1*x^0", .str "1*y*x", .str "x", .str "1x", .str "1*x^02", .str "1*x^2 "] ++ [.str "1*x*x", .str "1+2*x", .str "1 +2*x", .str "1 +  2*x", .str "1 + 2*x + ", .str "2*x + 1", .str "1*x + 1*x", .str "1_0", .str "1\n", .str "1\t"])) hl2
    have b2 : (upd G2 l2 (HO.lst ([.str "", .str " ", .str "00", .str "-0", .str "+1", .str "1 ", .str " 1", .str "01", .str "1*x^1", .str "1*x^0", .str "1*y*x", .str "x", .str "1x", .str "1*x^02", .str "1*x^2 "] ++ [.str "1*x*x", .str "1+2*x", .str "1 +2*x", .str "1 +  2*x", .str "1 + 2*x + ", .str "2*x + 1", .str "1*x + 1*x", .str "1_0", .str "1\n", .str "1\t"]))) l2 = some (HO.lst ([.str "", .str " ", .str "00", .str "-0", .str "+1", .str "1 ", .str " 1", .str "01", .str "1*x^1", .str "1*x^0", .str "1*y*x", .str "x", .str "1x", .str "1*x^02", .str "1*x^2 "] ++ [.str "1*x*x", .str "1+2*x", .str "1 +2*x", .str "1 +  2*x", .str "1 + 2*x + ", .str "2*x + 1", .str "1*x + 1*x", .str "1_0", .str "1\n", .str "1\t"])) := upd_same
    replace b1 := t3 _ _ b1
    replace c2 := t3 _ _ c2
    replace sm := sm.trans t3
    clear t3
    generalize upd G2 l2 (HO.lst ([.str "", .str " ", .str "00", .str "-0", .str "+1", .str "1 ", .str " 1", .str "01", .str "1*x^1", .str "1*x^0", .str "1*y*x", .str "x", .str "1x", .str "1*x^02", .str "1*x^2 "] ++ [.str "1*x*x", .str "1+2*x", .str "1 +2*x", .str "1 +  2*x", .str "1 + 2*x + ", .str "2*x + 1", .str "1*x + 1*x", .str "1_0", .str "1\n", .str "1\t"])) = G3 at b1 c2 b2 sm ⊢
    dsimp only [gName, List.set]
    refine ⟨_, rfl, by show 11 <= sizeLine; decide, fun r3 hr3 => ?_⟩
    have t4 := Same.new (o := HO.lst [.str "--1", .str "1*X", .str "1*x^-2", .str "1*x^2^2", .str "1**x", .str "1*", .str "*x", .str "1 + 0*x", .str "0 + 1*x", .str "1 - 2*x", .str "1*z"]) hr3
    have c3 : (upd G3 r3 (HO.lst [.str "--1", .str "1*X", .str "1*x^-2", .str "1*x^2^2", .str "1**x", .str "1*", .str "*x", .str "1 + 0*x", .str "0 + 1*x", .str "1 - 2*x", .str "1*z"])) r3 = some (HO.lst [.str "--1", .str "1*X", .str "1*x^-2", .str "1*x^2^2", .str "1**x", .str "1*", .str "*x", .str "1 + 0*x", .str "0 + 1*x", .str "1 - 2*x", .str "1*z"]) := upd_same
    replace b1 := t4 _ _ b1
    replace c2 := t4 _ _ c2
    replace b2 := t4 _ _ b2
    replace sm := sm.trans t4
    clear t4
    generalize upd G3 r3 (HO.lst [.str "--1", .str "1*X", .str "1*x^-2", .str "1*x^2^2", .str "1**x", .str "1*", .str "*x", .str "1 + 0*x", .str "0 + 1*x", .str "1 - 2*x", .str "1*z"]) = G4 at b1 c2 b2 c3 sm ⊢
    refine ⟨l2, r3, _, _, rfl, rfl, b2, c3, by show 36 <= sizeLine; decide, fun l3 hl3 => ?_⟩
    have t5 := Same.new (o := HO.lst (([.str "", .str " ", .str "00", .str "-0", .str "+1", .str "1 ", .str " 1", .str "01", .str "1*x^1", .str "1*x^0", .str "1*y*x", .str "x", .str "1x", .str "1*x^02", .str "1*x^2 "] ++ [.str "1*x*x", .str "1+2*x", .str "1 +2*x", .str "1 +  2*x", .str "1 + 2*x + ", .str "2*x + 1", .str "1*x + 1*x", .str "1_0", .str "1\n", .str "1\t"]) ++ [.str "--1", .str "1*X", .str "1*x^-2", .str "1*x^2^2", .str "1**x", .str "1*", .str "*x", .str "1 + 0*x", .str "0 + 1*x", .str "1 - 2*x", .str "1*z"])) hl3
    have b3 : (upd G4 l3 (HO.lst (([.str "", .str " ", .str "00", .str "-0", .str "+1", .str "1 ", .str " 1", .str "01", .str "1*x^1", .str "1*x^0", .str "1*y*x", .str "x", .str "1x", .str "1*x^02", .str "1*x^2 "] ++ [.str "1*x*x", .str "1+2*x", .str "1 +2*x", .str "1 +  2*x", .str "1 + 2*x + ", .str "2*x + 1", .str "1*x + 1*x", .str "1_0", .str "1\n", .str "1\t"]) ++ [.str "--1", .str "1*X", .str "1*x^-2", .str "1*x^2^2", .str "1**x", .str "1*", .str "*x", .str "1 + 0*x", .str "0 + 1*x", .str "1 - 2*x", .str "1*z"]))) l3 = some (HO.lst (([.str "", .str " ", .str "00", .str "-0", .str "+1", .str "1 ", .str " 1", .str "01", .str "1*x^1", .str "1*x^0", .str "1*y*x", .str "x", .str "1x", .str "1*x^02", .str "1*x^2 "] ++ [.str "1*x*x", .str "1+2*x", .str "1 +2*x", .str "1 +  2*x", .str "1 + 2*x + ", .str "2*x + 1", .str "1*x + 1*x", .str "1_0", .str "1\n", .str "1\t"]) ++ [.str "--1", .str "1*X", .str "1*x^-2", .str "1*x^2^2", .str "1**x", .str "1*", .str "*x", .str "1 + 0*x", .str "0 + 1*x", .str "1 - 2*x", .str "1*z"])) := upd_same
    replace b1 := t5 _ _ b1
    replace c2 := t5 _ _ c2
    replace b2 := t5 _ _ b2
    replace c3 := t5 _ _ c3
    replace sm := sm.trans t5
    clear t5
    generalize upd G4 l3 (HO.lst (([.str "", .str " ", .str "00", .str "-0", .str "+1", .str "1 ", .str " 1", .str "01", .str "1*x^1", .str "1*x^0", .str "1*y*x", .str "x", .str "1x", .str "1*x^02", .str "1*x^2 "] ++ [.str "1*x*x", .str "1+2*x", .str "1 +2*x", .str "1 +  2*x", .str "1 + 2*x + ", .str "2*x + 1", .str "1*x + 1*x", .str "1_0", .str "1\n", .str "1\t"]) ++ [.str "--1", .str "1*X", .str "1*x^-2", .str "1*x^2^2", .str "1**x", .str "1*", .str "*x", .str "1 + 0*x", .str "0 + 1*x", .str "1 - 2*x", .str "1*z"])) = G5 at b1 c2 b2 c3 b3 sm ⊢
    dsimp only [gName, List.set]
    refine ⟨_, rfl, by show 0 <= sizeLine; decide, fun a1 ha1 => ?_⟩
    have t6 := Same.new (o := HO.lst []) ha1
    have d1 : (upd G5 a1 (HO.lst [])) a1 = some (HO.lst []) := upd_same
    replace b1 := t6 _ _ b1
    replace c2 := t6 _ _ c2
    replace b2 := t6 _ _ b2
    replace c3 := t6 _ _ c3
    replace b3 := t6 _ _ b3
    replace sm := sm.trans t6
    clear t6
    generalize upd G5 a1 (HO.lst []) = G6 at b1 c2 b2 c3 b3 d1 sm ⊢
    refine ⟨by show 1 <= sizeLine; decide, fun a2 ha2 => ?_⟩
    have t7 := Same.new (o := HO.tup [.str "1"]) ha2
    have d2 : (upd G6 a2 (HO.tup [.str "1"])) a2 = some (HO.tup [.str "1"]) := upd_same
    replace b1 := t7 _ _ b1
    replace c2 := t7 _ _ c2
    replace b2 := t7 _ _ b2
    replace c3 := t7 _ _ c3
    replace b3 := t7 _ _ b3
    replace d1 := t7 _ _ d1
    replace sm := sm.trans t7
    clear t7
    generalize upd G6 a2 (HO.tup [.str "1"]) = G7 at b1 c2 b2 c3 b3 d1 d2 sm ⊢
    refine fun a3 ha3 => ?_
    have t8 := Same.new (o := HO.dK []) ha3
    have d3 : (upd G7 a3 (HO.dK [])) a3 = some (HO.dK []) := upd_same
    replace b1 := t8 _ _ b1
    replace c2 := t8 _ _ c2
    replace b2 := t8 _ _ b2
    replace c3 := t8 _ _ c3
    replace b3 := t8 _ _ b3
    replace d1 := t8 _ _ d1
    replace d2 := t8 _ _ d2
    replace sm := sm.trans t8
    clear t8
    generalize upd G7 a3 (HO.dK []) = G8 at b1 c2 b2 c3 b3 d1 d2 d3 sm ⊢
    refine ⟨by show 1 <= sizeLine; decide, fun a4 ha4 => ?_⟩
    have t9 := Same.new (o := HO.lst [.str "1"]) ha4
    have d4 : (upd G8 a4 (HO.lst [.str "1"])) a4 = some (HO.lst [.str "1"]) := upd_same
    replace b1 := t9 _ _ b1
    replace c2 := t9 _ _ c2
    replace b2 := t9 _ _ b2
    replace c3 := t9 _ _ c3
    replace b3 := t9 _ _ b3
    replace d1 := t9 _ _ d1
    replace d2 := t9 _ _ d2
    replace d3 := t9 _ _ d3
    replace sm := sm.trans t9
    clear t9
    generalize upd G8 a4 (HO.lst [.str "1"]) = G9 at b1 c2 b2 c3 b3 d1 d2 d3 d4 sm ⊢
    refine ⟨by show 11 <= sizeLine; decide, fun r4 hr4 => ?_⟩
    have t10 := Same.new (o := HO.lst [.str "1*x^", .str "1*xy", .str "1*x^ 2", .non, .int 7, .bl true, .ref a1, .ref a2, .ref a3, .int 0, .ref a4]) hr4
    have c4 : (upd G9 r4 (HO.lst [.str "1*x^", .str "1*xy", .str "1*x^ 2", .non, .int 7, .bl true, .ref a1, .ref a2, .ref a3, .int 0, .ref a4])) r4 = some (HO.lst [.str "1*x^", .str "1*xy", .str "1*x^ 2", .non, .int 7, .bl true, .ref a1, .ref a2, .ref a3, .int 0, .ref a4]) := upd_same
    replace b1 := t10 _ _ b1
    replace c2 := t10 _ _ c2
    replace b2 := t10 _ _ b2
    replace c3 := t10 _ _ c3
    replace b3 := t10 _ _ b3
    replace d1 := t10 _ _ d1
    replace d2 := t10 _ _ d2
    replace d3 := t10 _ _ d3
    replace d4 := t10 _ _ d4
    replace sm := sm.trans t10
    clear t10
    generalize upd G9 r4 (HO.lst [.str "1*x^", .str "1*xy", .str "1*x^ 2", .non, .int 7, .bl true, .ref a1, .ref a2, .ref a3, .int 0, .ref a4]) = G10 at b1 c2 b2 c3 b3 d1 d2 d3 d4 c4 sm ⊢
    refine ⟨l3, r4, _, _, rfl, rfl, b3, c4, by show 47 <= sizeLine; decide, fun l4 hl4 => ?_⟩
    have t11 := Same.new (o := HO.lst ((([.str "", .str " ", .str "00", .str "-0", .str "+1", .str "1 ", .str " 1", .str "01", .str "1*x^1", .str "1*x^0", .str "1*y*x", .str "x", .str "1x", .str "1*x^02", .str "1*x^2 "] ++ [.str "1*x*x", .str "1+2*x", .str "1 +2*x", .str "1 +  2*x", .str "1 + 2*x + ", .str "2*x + 1", .str "1*x + 1*x", .str "1_0", .str "1\n", .str "1\t"]) ++ [.str "--1", .str "1*X", .str "1*x^-2", .str "1*x^2^2", .str "1**x", .str "1*", .str "*x", .str "1 + 0*x", .str "0 + 1*x", .str "1 - 2*x", .str "1*z"]) ++ [.str "1*x^", .str "1*xy", .str "1*x^ 2", .non, .int 7, .bl true, .ref a1, .ref a2, .ref a3, .int 0, .ref a4])) hl4
    have b4 : (upd G10 l4 (HO.lst ((([.str "", .str " ", .str "00", .str "-0", .str "+1", .str "1 ", .str " 1", .str "01", .str "1*x^1", .str "1*x^0", .str "1*y*x", .str "x", .str "1x", .str "1*x^02", .str "1*x^2 "] ++ [.str "1*x*x", .str "1+2*x", .str "1 +2*x", .str "1 +  2*x", .str "1 + 2*x + ", .str "2*x + 1", .str "1*x + 1*x", .str "1_0", .str "1\n", .str "1\t"]) ++ [.str "--1", .str "1*X", .str "1*x^-2", .str "1*x^2^2", .str "1**x", .str "1*", .str "*x", .str "1 + 0*x", .str "0 + 1*x", .str "1 - 2*x", .str "1*z"]) ++ [.str "1*x^", .str "1*xy", .str "1*x^ 2", .non, .int 7, .bl true, .ref a1, .ref a2, .ref a3, .int 0, .ref a4]))) l4 = some (HO.lst ((([.str "", .str " ", .str "00", .str "-0", .str "+1", .str "1 ", .str " 1", .str "01", .str "1*x^1", .str "1*x^0", .str "1*y*x", .str "x", .str "1x", .str "1*x^02", .str "1*x^2 "] ++ [.str "1*x*x", .str "1+2*x", .str "1 +2*x", .str "1 +  2*x", .str "1 + 2*x + ", .str "2*x + 1", .str "1*x + 1*x", .str "1_0", .str "1\n", .str "1\t"]) ++ [.str "--1", .str "1*X", .str "1*x^-2", .str "1*x^2^2", .str "1**x", .str "1*", .str "*x", .str "1 + 0*x", .str "0 + 1*x", .str "1 - 2*x", .str "1*z"]) ++ [.str "1*x^", .str "1*xy", .str "1*x^ 2", .non, .int 7, .bl true, .ref a1, .ref a2, .ref a3, .int 0, .ref a4])) := upd_same
    replace b1 := t11 _ _ b1
    replace c2 := t11 _ _ c2
    replace b2 := t11 _ _ b2
    replace c3 := t11 _ _ c3
    replace b3 := t11 _ _ b3
    replace d1 := t11 _ _ d1
    replace d2 := t11 _ _ d2
    replace d3 := t11 _ _ d3
    replace d4 := t11 _ _ d4
    replace c4 := t11 _ _ c4
    replace sm := sm.trans t11
    clear t11
    generalize upd G10 l4 (HO.lst ((([.str "", .str " ", .str "00", .str "-0", .str "+1", .str "1 ", .str " 1", .str "01", .str "1*x^1", .str "1*x^0", .str "1*y*x", .str "x", .str "1x", .str "1*x^02", .str "1*x^2 "] ++ [.str "1*x*x", .str "1+2*x", .str "1 +2*x", .str "1 +  2*x", .str "1 + 2*x + ", .str "2*x + 1", .str "1*x + 1*x", .str "1_0", .str "1\n", .str "1\t"]) ++ [.str "--1", .str "1*X", .str "1*x^-2", .str "1*x^2^2", .str "1**x", .str "1*", .str "*x", .str "1 + 0*x", .str "0 + 1*x", .str "1 - 2*x", .str "1*z"]) ++ [.str "1*x^", .str "1*xy", .str "1*x^ 2", .non, .int 7, .bl true, .ref a1, .ref a2, .ref a3, .int 0, .ref a4])) = G11 at b1 c2 b2 c3 b3 d1 d2 d3 d4 c4 b4 sm ⊢
    dsimp only [gName, List.set]
    have eL : ((([.str "", .str " ", .str "00", .str "-0", .str "+1", .str "1 ", .str " 1", .str "01", .str "1*x^1", .str "1*x^0", .str "1*y*x", .str "x", .str "1x", .str "1*x^02", .str "1*x^2 "] ++ [.str "1*x*x", .str "1+2*x", .str "1 +2*x", .str "1 +  2*x", .str "1 + 2*x + ", .str "2*x + 1", .str "1*x + 1*x", .str "1_0", .str "1\n", .str "1\t"]) ++ [.str "--1", .str "1*X", .str "1*x^-2", .str "1*x^2^2", .str "1**x", .str "1*", .str "*x", .str "1 + 0*x", .str "0 + 1*x", .str "1 - 2*x", .str "1*z"]) ++ [.str "1*x^", .str "1*xy", .str "1*x^ 2", .non, .int 7, .bl true, .ref a1, .ref a2, .ref a3, .int 0, .ref a4] : List V) = odds.map V.str ++ [.non, .int 7, .bl true, .ref a1, .ref a2, .ref a3, .int 0, .ref a4] := rfl
    rw [eL] at b4
    obtain ⟨x, ax, hx⟩ := at_mod (xs := odds.map V.str ++ [.non, .int 7, .bl true, .ref a1, .ref a2, .ref a3, .int 0, .ref a4]) (c := c) (by rw [List.length_append]; exact Nat.lt_of_lt_of_le (by decide : 0 < 8) (Nat.le_add_left 8 _))
    refine ⟨_, rfl, _, rfl, _, rfl, l4, _, rfl, .inl (SqL.of b4), _, _, rfl, rfl, (by rw [List.length_append]; exact Int.lt_of_lt_of_le (by decide : (0 : Int) < 8) (by show (8 : Int) <= ((_ + 8 : Nat) : Int); lia)), l4, _, _, x, rfl, rfl, SqL.of b4, ax, q x _ sm ?_⟩
    rcases List.mem_append.mp hx with z | z
    · obtain ⟨sx, hs, rfl⟩ := List.mem_map.mp z
      exact any_str (List.all_eq_true.mp odds_asc sx hs)
    · simp only [List.mem_cons, List.not_mem_nil, or_false] at z
      rcases z with rfl | rfl | rfl | rfl | rfl | rfl | rfl | rfl
      · exact .inl ⟨⟨_, .non, (fun _ z => nomatch z)⟩, fun _ z => nomatch z⟩
      · exact .inl ⟨⟨_, .int _, (fun _ z => nomatch z)⟩, fun _ z => nomatch z⟩
      · exact .inl ⟨⟨_, .bl _, (fun _ z => nomatch z)⟩, fun _ z => nomatch z⟩
      · exact .inl ⟨⟨_, .lst d1, (fun _ z => nomatch z)⟩, fun _ z => nomatch z⟩
      · exact .inl ⟨⟨_, .tup d2, (fun _ z => nomatch z)⟩, fun _ z => nomatch z⟩
      · exact .inl ⟨⟨_, .dK d3, (fun _ z => nomatch z)⟩, fun _ z => nomatch z⟩
      · exact .inl ⟨⟨_, .int _, (fun _ z => nomatch z)⟩, fun _ z => nomatch z⟩
      · exact .inl ⟨⟨_, .lst d4, (fun _ z => nomatch z)⟩, fun _ z => nomatch z⟩
end
end My
namespace My
open PySem L2 PySem.NumText PyProof.Rows
def WA (k : Nat) (w : List Nat) : Prop := (∀ c ∈ w, c < 128) /\ w.length <= k
theorem WA.app {k l : Nat} {v w : List Nat} (h1 : WA k v) (h2 : WA l w) : WA (k + l) (v ++ w) := by
  refine ⟨fun c hc => ?_, by rw [List.length_append]; exact Nat.add_le_add h1.2 h2.2⟩
  rcases List.mem_append.mp hc with z | z
  · exact h1.1 c z
  · exact h2.1 c z
theorem WA.mono {k l : Nat} {w : List Nat} (h : WA k w) (hl : k <= l) : WA l w := ⟨h.1, Nat.le_trans h.2 hl⟩
theorem WA.asc {k : Nat} {w : List Nat} (h : WA k w) (hk : k <= 9000) : Asc w := ⟨h.1, Nat.le_trans h.2 hk⟩
theorem dec_wa {n : Int} (h0 : 0 <= n) {k : Nat} (hk : 1 <= k) (hn : n < 10 ^ k) : WA k (decC n) := ⟨fun c hc => by have := dec_signs n c hc; lia, dec_len h0 hk hn⟩
theorem dec_wa' {n : Int} (hn : n.natAbs < 10 ^ 60) : WA 61 (decC n) := ⟨fun c hc => by have := dec_signs n c hc; lia, dec_len' hn⟩
theorem pw_wa {u : Nat} (hu : u < 128) {k : Int} (h0 : 0 <= k) (h6 : k <= 60) : WA 5 (pwC u k) := ⟨fun c hc => by have := pw_signs u k c hc; lia, pwC_len h0 h6⟩
theorem tm_wa {t : T3} (h : TmOk t) : WA 71 (tmC t) := by
  unfold tmC
  exact ((dec_wa' h.ab).app (pw_wa (by decide) h.i0 h.i6)).app (pw_wa (by decide) h.j0 h.j6)
theorem glue3_mem : ∀ {ws : List (List Nat)} {c : Nat}, c ∈ glue3 ws -> c = 32 \/ c = 43 \/ ∃ w ∈ ws, c ∈ w
  | [], c, h => by cases h
  | [w], c, h => .inr (.inr ⟨w, List.mem_cons_self, h⟩)
  | w :: v :: r, c, h => by
    rcases List.mem_append.mp h with z | z
    · exact .inr (.inr ⟨w, List.mem_cons_self, z⟩)
    · rcases List.mem_cons.mp z with z | z
      · exact .inl z
      · rcases List.mem_cons.mp z with z | z
        · exact .inr (.inl z)
        · rcases List.mem_cons.mp z with z | z
          · exact .inl z
          · rcases glue3_mem z with z | z | ⟨x, hx, hc⟩
            · exact .inl z
            · exact .inr (.inl z)
            · exact .inr (.inr ⟨x, List.mem_cons_of_mem _ hx, hc⟩)
theorem glue_wa {ws : List (List Nat)} {k m : Nat} (h : ∀ w ∈ ws, WA k w) (hm : ws.length * (k + 3) <= m) : WA m (glue3 ws) := by
  refine ⟨fun c hc => ?_, Nat.le_trans (glue3_len fun w hw => (h w hw).2) hm⟩
  rcases glue3_mem hc with z | z | ⟨w, hw, z⟩
  · lia
  · lia
  · exact (h w hw).1 c z
theorem join_of {K : W.Frag} {H : Hp} {p : Addr} {ws : List (List Nat)} {k : Nat} {Q : VK} (hp : SqL K H p (vsC ws)) (ne : ws ≠ []) (h : ∀ w ∈ ws, WA k w) (hk : ws.length * (k + 3) <= 9000) (q : Q (.str (mkS (glue3 ws))) H) : rJoin K (.str " + ") [.ref p] H Q := by
  refine ⟨" + ", p, ws.map mkS, rfl, rfl, by rw [List.map_map]; exact hp, ?_, ?_⟩
  · have a1 := sum_len (ws := ws) (k := k) fun w hw => (h w hw).2
    rw [List.length_map, lit_plus, mkS_len]
    show _ + ws.length * 3 <= 16777216
    rw [Nat.mul_add] at hk
    lia
  · rw [join3 (by decide +kernel) ne]
    exact q
theorem log_61 {n : Int} (h : n.natAbs < 10 ^ 62) : n.natAbs.log2 < 1920 := by
  by_cases z : n.natAbs = 0
  · rw [z]; decide
  · refine (Nat.log2_lt z).mpr (Nat.lt_trans h ?_)
    decide +kernel
section
variable {P : Program} {w : World} {K : W.Frag} {mg : Str -> Option Value} {base : Heap}
theorem scBound : FnScope ["_law_cell", "_law_many"] ["_law_cell"] (defScope sBound) := ⟨rfl, rfl, rfl, by decide +kernel, rfl, by decide +kernel, by decide +kernel⟩
theorem ndlk : (["_law_k"] : List Str).Nodup := by decide +kernel
theorem d_bound (T : TxP mg) (T2 : Tx26 mg) (tr : mg "range" = none) (S : Src K mg "_law_bound" sBound ["_law_cell"]) (DF : Def P w K mg base 1 "_law_factor" ["_law_letter", "_law_k"] spPwText) : Def P w K mg base 2 "_law_bound" ["_law_cell"] (spMk K) := by
  refine S.def scBound (fun vs H Q E h => ?_) (fun f cdv A outer s H vs Q E hr h => ?_)
  · obtain ⟨_, rfl, _⟩ := h; rfl
  · obtain ⟨c, rfl, q⟩ := h
    refine ⟨_, pss_cons (ps_if (pt_cmpR op_eq (pe_op op_mod (pv 0) pe_int) pe_int (nomark _))
        (pss_cons (ps_set (i := 1) scBound.nd rfl (Or.inl rfl) (pe_op op_add pe_int (pe_op op_mod (pe_op op_fdiv (pv 0) pe_int) pe_int)))
        (pss_one (ps_ret (pe_bm PySem.F.plainAttrs_str PySem.F.slot_str_join PySem.F.type_str_join mt_join pe_str (pa_cons (pe_comp (N' := ["_law_k"]) (fr := [none]) (compOk_of (by rfl)) rfl (pi_range1 rfl tr (pa_cons (pv 1) pa_nil)) (fun _ _ _ _ => pg_name (i := 0) ndlk rfl (Or.inl rfl) (Or.inr rfl)) (fun _ _ _ _ => pifs_nil)
          (fun _ _ _ _ => pe_op op_add_str (pe_op op_add_str (pe_callTy call_str_int rfl T2.str boot_str' (pa_cons (pe_op op_add (pv 0) pe_int) pa_nil)) (pe_def DF hr rfl (pa_cons pe_str (pa_cons (pe_op op_fdiv (pv 0) pe_int) pa_nil)))) (pe_def DF hr rfl (pa_cons pe_str (pa_cons (pe_op op_mod (pv 0) pe_int) pa_nil))))) pa_nil))))) pss_nil)
      (pss_cons (ps_if (pt_cmpR op_eq (pe_op op_mod (pv 0) pe_int) pe_int (nomark _))
        (pss_one (ps_ret (pe_op op_add_str (pe_op op_add_str (pe_op op_add_str pe_str (pe_callTy call_str_int rfl T2.str boot_str' (pa_cons (pe_op op_add pe_int (pe_op op_mod (pe_op op_fdiv (pv 0) pe_int) pe_int)) pa_nil))) pe_str) (pe_callTy call_str_int rfl T2.str boot_str' (pa_cons (pe_op op_add pe_int (pe_op op_mod (pe_op op_fdiv (pv 0) pe_int) pe_int)) pa_nil))))) pss_nil)
      (pss_one (ps_ret (pe_callTy call_str_int rfl T2.str boot_str' (pa_cons (pe_op op_mul (pe_op op_add (pe_op op_mod (pe_op op_fdiv (pv 0) pe_int) pe_int) pe_int) (pe_ix (ix_listK K) (pe_lst (pa_cons (pe_op op_pow pe_int pe_int) (pa_cons (pe_op op_pow pe_int pe_int) pa_nil))) (pe_op op_mod (pe_op op_fdiv (pv 0) pe_int) pe_int) (fun _ _ => rfl))) pa_nil))))), ?_⟩
    refine ⟨_, rfl, _, _, rfl, rfl, (by show (0 : Int) < 3; decide), rfl, _, rfl, ite2 (fun _ => ?_) (fun _ => ?_)⟩
    · have b2 := mod_in (c / 3) 2 (by decide)
      refine ⟨_, rfl, _, _, rfl, rfl, ⟨by decide, by decide⟩, _, _, rfl, rfl, (by show (0 : Int) < 2; decide), _, _, rfl, rfl, ?_⟩
      obtain ⟨N, eN, N1, N2⟩ : ∃ N : Nat, 100 + c / 3 % 2 = (N : Int) /\ 1 <= N /\ N <= 101 := ⟨(100 + c / 3 % 2).toNat, by lia, by lia, by lia⟩
      dsimp only [gName, List.set]
      rw [eN]
      refine ⟨rfl, _, rfl, (N : Int), rfl, by lia, by lia, ?_⟩
      rw [Int.toNat_natCast]
      refine comp_range (lo := 0) (n := N) (fun σ => ∃ v, σ = [v]) (fun i ys H' => Same H H' /\ ∃ ws : List (List Nat), ys = vsC ws /\ ws.length = i /\ ∀ w ∈ ws, WA 20 w) ⟨_, rfl⟩ ⟨Same.refl _, [], rfl, rfl, (fun _ z => nomatch z)⟩ (lt_line (by lia)) ?_ ?_
      · rintro i ys σ H' M il ⟨u, rfl⟩ ⟨sm, ws, rfl, wl, wa⟩ hN
        rw [show (0 : Int) + (i : Int) = (i : Int) by lia]
        dsimp only [gName, List.set]
        refine yesT ?_
        have a0 := mod_in (i : Int) 51 (by decide)
        have d0 : 0 <= (i : Int) / 51 /\ (i : Int) / 51 <= 60 := by lia
        have ei : (toString ((i : Int) + 1) : Str) = mkS (decC ((i : Int) + 1)) := dec_str _
        have w1 : WA 3 (decC ((i : Int) + 1)) := dec_wa (by lia) (by decide) (by lia)
        have w2 : WA 5 (pwC 120 ((i : Int) / 51)) := pw_wa (by decide) d0.1 d0.2
        have w3 : WA 5 (pwC 121 ((i : Int) % 51)) := pw_wa (by decide) a0.1 (by lia)
        have ll := w1.2
        have l2 := w2.2
        have l3 := w3.2
        refine ⟨_, rfl, _, _, rfl, rfl, _, rfl, log_61 (Nat.lt_of_le_of_lt (show ((i : Int) + 1).natAbs <= 200 by lia) (by decide)), _, rfl, _, _, rfl, rfl, ⟨by decide, by decide⟩, 120, (i : Int) / 51, by rw [lit_x]; rfl, d0.1, d0.2, fun H2 s2 => ?_⟩
        rw [ei]
        refine ⟨_, _, rfl, rfl, by rw [mkS_len, mkS_len]; exact line_of (by lia), ?_⟩
        rw [mk_app]
        refine ⟨_, rfl, _, _, rfl, rfl, (by show (0 : Int) < 51; decide), 121, (i : Int) % 51, by rw [lit_y]; rfl, a0.1, by lia, fun H3 s3 => ?_⟩
        refine ⟨_, _, rfl, rfl, by rw [mkS_len, mkS_len, List.length_append]; exact line_of (by lia), ?_⟩
        rw [mk_app]
        refine hN _ _ _ ⟨_, rfl⟩ ⟨sm.trans (s2.trans s3), ws ++ [decC ((i : Int) + 1) ++ pwC 120 ((i : Int) / 51) ++ pwC 121 ((i : Int) % 51)], ?_, by rw [List.length_append, wl]; rfl, fun x hx => ?_⟩ (by simp)
        · unfold vsC
          rw [List.map_append]
          rfl
        · rcases List.mem_append.mp hx with z | z
          · exact wa x z
          · rw [List.mem_singleton.mp z]
            exact ((w1.app w2).app w3).mono (by decide)
      · rintro ys H' ⟨sm, ws, rfl, wl, wa⟩ p hp
        refine join_of (SqL.of upd_same) (fun z => by rw [z] at wl; exact absurd wl (by show ¬ 0 = N; lia)) wa (by rw [wl]; lia) ?_
        exact q _ _ (sm.trans (Same.new hp)) (.inr ⟨_, rfl, (glue_wa (m := 9000) wa (by rw [wl]; lia)).asc (Nat.le_refl _)⟩)
    · refine ⟨_, rfl, _, _, rfl, rfl, (by show (0 : Int) < 3; decide), rfl, _, rfl, ite2 (fun _ => ?_) (fun _ => ?_)⟩
      · have b2 := mod_in (c / 3) 2 (by decide)
        have b3 := mod_in (c / 6) 2 (by decide)
        have e1 : (toString (60 + c / 3 % 2) : Str) = mkS (decC (60 + c / 3 % 2)) := dec_str _
        have e2 : (toString (60 + c / 6 % 2) : Str) = mkS (decC (60 + c / 6 % 2)) := dec_str _
        have w1 : WA 2 (decC (60 + c / 3 % 2)) := dec_wa (by lia) (by decide) (by lia)
        have w2 : WA 2 (decC (60 + c / 6 % 2)) := dec_wa (by lia) (by decide) (by lia)
        have k1 : ("1*x^" : Str) = mkS [49, 42, 120, 94] := by decide +kernel
        have k2 : ("*y^" : Str) = mkS [42, 121, 94] := by decide +kernel
        have ll := w1.2
        have l2 := w2.2
        refine ⟨_, rfl, _, _, rfl, rfl, ⟨by decide, by decide⟩, _, _, rfl, rfl, (by show (0 : Int) < 2; decide), _, _, rfl, rfl, _, rfl, log_61 (Nat.lt_of_le_of_lt (show (60 + c / 3 % 2).natAbs <= 200 by lia) (by decide)), ?_⟩
        rw [e1, k1, k2]
        refine ⟨_, _, rfl, rfl, by rw [mkS_len, mkS_len]; exact line_of (by show 4 + _ <= _; lia), ?_⟩
        rw [mk_app]
        refine ⟨_, _, rfl, rfl, by rw [mkS_len, mkS_len, List.length_append]; exact line_of (by show 4 + _ + 3 <= _; lia), ?_⟩
        rw [mk_app]
        refine ⟨_, rfl, _, _, rfl, rfl, ⟨by decide, by decide⟩, _, _, rfl, rfl, (by show (0 : Int) < 2; decide), _, _, rfl, rfl, _, rfl, log_61 (Nat.lt_of_le_of_lt (show (60 + c / 6 % 2).natAbs <= 200 by lia) (by decide)), ?_⟩
        rw [e2]
        refine ⟨_, _, rfl, rfl, by rw [mkS_len, mkS_len, List.length_append, List.length_append]; exact line_of (by show 4 + _ + 3 + _ <= _; lia), ?_⟩
        rw [mk_app]
        have v1 : WA 4 [49, 42, 120, 94] := ⟨by decide, by decide⟩
        have v2 : WA 3 [42, 121, 94] := ⟨by decide, by decide⟩
        exact q _ _ (Same.refl _) (.inr ⟨_, rfl, (((v1.app w1).app v2).app w2).asc (by decide)⟩)
      · have b9 := mod_in (c / 6) 9 (by decide)
        have b2 := mod_in (c / 3) 2 (by decide)
        refine ⟨_, rfl, _, _, rfl, rfl, ⟨by decide, by decide⟩, _, _, rfl, rfl, (by show (0 : Int) < 9; decide), _, _, rfl, rfl, _, _, rfl, rfl, ⟨by decide, by decide, by decide⟩, _, _, rfl, rfl, ⟨by decide, by decide, by decide⟩, by show 2 <= sizeLine; decide, fun p hp => ?_⟩
        have fin : ∀ (m : Int) (H' : Hp), 0 <= m -> m <= 10 ^ 60 -> Same H H' -> rI CMul (fun i j => V.int (i * j)) (.int (c / 6 % 9 + 1)) (.int m) H' (fun v H2 => ∃ i, [v] = [V.int i] /\ i.natAbs.log2 < 1920 /\ Q (.str (toString i)) H2) := fun m H' m0 m1 s' => by
          have n0 : 0 <= (c / 6 % 9 + 1) * m := Int.mul_nonneg (by lia) m0
          have n1 : (c / 6 % 9 + 1) * m < 10 ^ 62 := by
            have : (c / 6 % 9 + 1) * m <= 9 * 10 ^ 60 := Int.mul_le_mul (by lia) m1 m0 (by decide)
            exact Int.lt_of_le_of_lt this (by decide)
          refine ⟨_, _, rfl, rfl, .inl ⟨by lia, by lia⟩, _, rfl, log_61 (by
            have z : (((c / 6 % 9 + 1) * m).natAbs : Int) = (c / 6 % 9 + 1) * m := Int.natAbs_of_nonneg n0
            have z2 : ((((c / 6 % 9 + 1) * m).natAbs : Nat) : Int) < ((10 ^ 62 : Nat) : Int) := by rw [z]; exact_mod_cast n1
            exact_mod_cast z2), ?_⟩
          have ed : (toString ((c / 6 % 9 + 1) * m) : Str) = mkS (decC ((c / 6 % 9 + 1) * m)) := dec_str _
          rw [ed]
          exact q _ _ s' (.inr ⟨_, rfl, (dec_wa n0 (k := 62) (by decide) n1).asc (by decide)⟩)
        refine ⟨_, rfl, _, _, rfl, rfl, ⟨by decide, by decide⟩, _, _, rfl, rfl, (by show (0 : Int) < 2; decide), ?_⟩
        by_cases h2 : c / 3 % 2 = 0
        · refine ⟨p, _, _, .int (10 ^ (59 : Int).toNat), rfl, rfl, SqL.of upd_same, by rw [h2]; exact atI_nat (j := 0) rfl, ?_⟩
          exact fin _ _ (by decide +kernel) (by decide +kernel) (Same.new hp)
        · have h3 : c / 3 % 2 = 1 := by lia
          refine ⟨p, _, _, .int (10 ^ (60 : Int).toNat), rfl, rfl, SqL.of upd_same, by rw [h3]; exact atI_nat (j := 1) rfl, ?_⟩
          exact fin _ _ (by decide +kernel) (by decide +kernel) (Same.new hp)
end
end My
namespace My
open PySem L2 PySem.NumText PyProof.Rows
theorem cut_from' (xs : List V) (a : Nat) : cutV xs (some (a : Int)) none = xs.drop a := by
  unfold cutV
  have e1 : HT.sIx xs.length 0 (some (a : Int)) = min a xs.length := HT.sIx_nat xs.length 0 a
  have e2 : HT.sIx xs.length xs.length none = xs.length := rfl
  rw [e1, e2]
  by_cases h : a <= xs.length
  · rw [Nat.min_eq_left h, List.take_of_length_le (by rw [List.length_drop]; lia)]
  · rw [Nat.min_eq_right (by lia), List.drop_eq_nil_of_le (Nat.le_refl _), List.drop_eq_nil_of_le (by lia), List.take_nil]
theorem cut_to' (xs : List V) (b : Nat) : cutV xs none (some (b : Int)) = xs.take b := by
  unfold cutV
  have e1 : HT.sIx xs.length xs.length (some (b : Int)) = min b xs.length := HT.sIx_nat xs.length xs.length b
  have e2 : HT.sIx xs.length 0 none = 0 := rfl
  rw [e1, e2, List.drop_zero, Nat.sub_zero]
  by_cases h : b <= xs.length
  · rw [Nat.min_eq_left h]
  · rw [Nat.min_eq_right (by lia), List.take_length, List.take_of_length_le (by lia)]
def GW (H0 : Hp) (j k : Nat) (wl : Addr) (H' : Hp) : Prop := Same H0 H' /\ H0 wl = none /\ ∃ ws : List (List Nat), H' wl = some (.lst (vsC ws)) /\ j < ws.length /\ ws.length <= k /\ ∀ w ∈ ws, WA 71 w
theorem GW.mono {H0 : Hp} {j k l : Nat} {wl : Addr} {H' : Hp} (h : GW H0 j k wl H') (hl : k <= l) : GW H0 j l wl H' := by
  obtain ⟨a, b, ws, c, d, e, f⟩ := h
  exact ⟨a, b, ws, c, d, Nat.le_trans e hl, f⟩
theorem same_put {H H2 : Hp} {p : Addr} {o : HO} (s : Same H H2) (h : H p = none) : Same H (upd H2 p o) := fun b u e => by rw [upd_ne (ne_of_none e h)]; exact s b u e
def signs27 : Str := "0123456789*^xy +-XY_\n\t,.az"
theorem sign_at {i : Int} (h0 : 0 <= i) (h : i < 26) : ∃ ch, atI signs27.cps.toList i = some ch /\ ch < 128 := by
  have : ∀ k : Fin 26, ((signs27.cps.toList[k.val]?).any (· < 128)) = true := by decide +kernel
  have z := this ⟨i.toNat, by lia⟩
  dsimp only at z
  cases e : signs27.cps.toList[i.toNat]? with
  | none => rw [e] at z; cases z
  | some ch =>
    rw [e] at z
    refine ⟨ch, ?_, by simpa using z⟩
    have := atI_nat (xs := signs27.cps.toList) (j := i.toNat) e
    rwa [Int.toNat_of_nonneg h0] at this
theorem poly_one (t : T3) : polyC [t] = tmC t := if_neg (List.cons_ne_nil _ _)
def spSpoilt (K : W.Frag) : Sp := fun vs H Q _ => ∃ (v : V) (L : List T3) (c : Int), vs = [v, .int c] /\ PolyAt H v L /\ (∀ t ∈ L, TmOk t) /\ 1 <= L.length /\ L.length <= 8 /\ ∀ x H', Same H H' -> Any27 K H' x -> Q x H'
section
variable {P : Program} {w : World} {K : W.Frag} {mg : Str -> Option Value} {base : Heap}
theorem scSpoilt : FnScope ["_law_terms", "_law_cell", "_law_words", "_law_at_here", "_law_text_here", "_law_sign"] ["_law_terms", "_law_cell"] (defScope sSpoilt) := ⟨rfl, rfl, rfl, by decide +kernel, rfl, by decide +kernel, by decide +kernel⟩
theorem ndth : (["_law_term_here"] : List Str).Nodup := by decide +kernel
seal PSs PS PE PI PA PT PG
theorem d_spoilt (T : TxP mg) (S : Src K mg "_law_spoilt" sSpoilt ["_law_terms", "_law_cell"]) (DX : Def P w K mg base 2 "_law_text" ["_law_poly"] (spPText K)) : Def P w K mg base 3 "_law_spoilt" ["_law_terms", "_law_cell"] (spSpoilt K) := by
  refine S.def scSpoilt (fun vs H Q E h => ?_) (fun f cdv A outer s H vs Q E hr h => ?_)
  · obtain ⟨_, _, _, rfl, _⟩ := h; rfl
  · obtain ⟨v, L, c, rfl, pa, ok, l1, l8, q⟩ := h
    obtain ⟨ta, rs, rfl, hta, ht⟩ := pa.ex
    refine ⟨_, pss_cons (ps_setComp (i := 2) scSpoilt.nd rfl (Or.inl rfl) (N' := ["_law_term_here"]) (fr := [none]) (compOk_of (by rfl)) rfl (pi_seqK K .t (pv 0)) (fun _ _ _ _ => pg_name (i := 0) ndth rfl (Or.inl rfl) (Or.inr rfl)) (fun _ _ _ _ => pifs_nil)
        (fun _ _ _ _ => pe_def DX hr rfl (pa_cons (pe_tup (pa_cons (pv 0) pa_nil)) pa_nil)))
      (pss_cons (ps_set (i := 3) scSpoilt.nd rfl (Or.inl rfl) (pe_op op_mod (pe_op op_fdiv (pv 1) pe_int) (pe_callB (call_lenK K) (by rfl) T.len PySem.boot_len (pa_cons (pv 2) pa_nil))))
      (pss_cons (ps_if (pt_cmpR op_eq (pe_op op_mod (pv 1) pe_int) pe_int (nomark _)) (pss_one (ps_asg (pe_ix (ix_listK K) (pv 2) pe_int (fun _ _ => rfl)) (pg_sub (pv 2) (pv 3) set_list))) pss_nil)
      (pss_cons (ps_if (pt_cmpR op_eq (pe_op op_mod (pv 1) pe_int) pe_int (nomark _)) (pss_one (ps_set (i := 2) scSpoilt.nd rfl (Or.inl rfl) (pe_op op_cat (pe_slice (sl_listK K) (pv 2) (po_some (pv 3)) po_none) (pe_slice (sl_listK K) (pv 2) po_none (po_some (pv 3)))))) pss_nil)
      (pss_cons (ps_if (pt_cmpR op_eq (pe_op op_mod (pv 1) pe_int) pe_int (nomark _)) (pss_one (ps_expr (pe_bm PySem.F.plainAttrs_list PySem.F.slot_list_insert PySem.F.type_list_insert mt_insert (pv 2) (pa_cons (pv 3) (pa_cons (pe_ix (ix_listK K) (pv 2) (pv 3) (fun _ _ => rfl)) pa_nil))))) pss_nil)
      (pss_cons (ps_if (pt_cmpR op_eq (pe_op op_mod (pv 1) pe_int) pe_int (nomark _)) (pss_one (ps_expr (pe_bm PySem.F.plainAttrs_list PySem.F.slot_list_insert PySem.F.type_list_insert mt_insert (pv 2) (pa_cons (pv 3) (pa_cons pe_str pa_nil))))) pss_nil)
      (pss_cons (ps_set (i := 4) scSpoilt.nd rfl (Or.inl rfl) (pe_bm PySem.F.plainAttrs_str PySem.F.slot_str_join PySem.F.type_str_join mt_join pe_str (pa_cons (pv 2) pa_nil)))
      (pss_cons (ps_if (pt_cmpR op_lt (pe_op op_mod (pv 1) pe_int) pe_int (nomark _)) (pss_one (ps_ret (pv 4))) pss_nil)
      (pss_cons (ps_set (i := 3) scSpoilt.nd rfl (Or.inl rfl) (pe_op op_mod (pe_op op_fdiv (pv 1) pe_int) (pe_op op_add (pe_callB call_len_str (by rfl) T.len PySem.boot_len (pa_cons (pv 4) pa_nil)) pe_int)))
      (pss_cons (ps_set (i := 5) scSpoilt.nd rfl (Or.inl rfl) (pe_ix ix_str pe_str (pe_op op_mod (pe_op op_fdiv (pe_op op_fdiv (pv 1) pe_int) (pe_op op_add (pe_callB call_len_str (by rfl) T.len PySem.boot_len (pa_cons (pv 4) pa_nil)) pe_int)) pe_int) (fun _ _ => rfl)))
      (pss_cons (ps_if (pt_cmpR op_eq (pe_op op_mod (pv 1) pe_int) pe_int (nomark _)) (pss_one (ps_ret (pe_op op_add_str (pe_op op_add_str (pe_slice sl_str (pv 4) po_none (po_some (pv 3))) (pv 5)) (pe_slice sl_str (pv 4) (po_some (pv 3)) po_none)))) pss_nil)
      (pss_cons (ps_if (pt_cmpR op_eq (pe_op op_mod (pv 1) pe_int) pe_int (nomark _)) (pss_one (ps_ret (pe_op op_add_str (pe_slice sl_str (pv 4) po_none (po_some (pv 3))) (pe_slice sl_str (pv 4) (po_some (pe_op op_add (pv 3) pe_int)) po_none)))) pss_nil)
      (pss_cons (ps_if (pt_cmpR op_eq (pe_op op_mod (pv 1) pe_int) pe_int (nomark _)) (pss_one (ps_ret (pe_op op_add_str (pe_op op_add_str (pe_slice sl_str (pv 4) po_none (po_some (pv 3))) (pv 5)) (pe_slice sl_str (pv 4) (po_some (pe_op op_add (pv 3) pe_int)) po_none)))) pss_nil)
      (pss_one (ps_ret (pe_slice sl_str (pv 4) po_none (po_some (pv 3))))))))))))))))), ?_⟩
    have rl : rs.length = L.length := Paired.length ht
    refine ⟨_, rfl, ta, rfl, ⟨_, SqT.of hta⟩, comp_seq (k := .t) (a := ta) (xs := rs) (fun σ => ∃ v, σ = [v]) (fun i ys H' => Same H H' /\ ys = vsC ((L.take i).map tmC)) ⟨_, rfl⟩ ⟨Same.refl _, rfl⟩ (by rw [rl]; exact lt_line (by lia)) (fun i ys H' _ z => SqT.of (z.1 _ _ hta)) ?_ ?_⟩
    · rintro i x ys σ H' N hx ⟨u, rfl⟩ ⟨sm, rfl⟩ hN
      obtain ⟨t, et, b, rfl, hb⟩ := Paired.at ht hx
      dsimp only [gName, List.set]
      refine yesT ⟨_, rfl, by show 1 <= sizeLine; decide, fun d hd => ?_⟩
      have sd := Same.new (o := HO.tup [.ref b]) hd
      refine ⟨.ref d, [t], rfl, ⟨d, [.ref b], rfl, upd_same, .cons ⟨b, rfl, sd _ _ (sm _ _ hb)⟩ .nil⟩, (fun t' h' => by rw [List.mem_singleton.mp h']; exact ok t (List.mem_of_getElem? et)), (by show 1 <= 100; decide), fun H2 s2 => ?_⟩
      rw [poly_one]
      refine hN _ _ _ ⟨_, rfl⟩ ⟨(sm.trans sd).trans s2, ?_⟩ (by simp)
      rw [take_succ_of et, List.map_append]
      unfold vsC
      rw [List.map_append]
      rfl
    · rintro ys H1 ⟨sm, rfl⟩ wl hwl
      rw [rl, List.take_length]
      have hwH : H wl = none := none_of sm hwl
      have sw := Same.new (o := HO.lst (vsC (L.map tmC))) hwl
      have hw1 : (upd H1 wl (HO.lst (vsC (L.map tmC)))) wl = some (.lst (vsC (L.map tmC))) := upd_same
      replace sm := sm.trans sw
      generalize upd H1 wl (HO.lst (vsC (L.map tmC))) = H2 at sm hw1 ⊢
      have wl0 : (vsC (L.map tmC)).length = L.length := by unfold vsC; rw [List.length_map, List.length_map]
      have bj := mod_in (c / 8) ((vsC (L.map tmC)).length : Int) (by rw [wl0]; lia)
      dsimp only [gName, List.set]
      refine ⟨_, rfl, _, _, rfl, rfl, ⟨by decide, by decide⟩, _, rfl, wl, _, rfl, .inl (SqL.of hw1), _, _, rfl, rfl, (by rw [wl0]; show (0 : Int) < (L.length : Int); lia), ?_⟩
      obtain ⟨j, ej⟩ : ∃ j : Nat, c / 8 % ((vsC (L.map tmC)).length : Int) = (j : Int) := ⟨(c / 8 % ((vsC (L.map tmC)).length : Int)).toNat, by lia⟩
      dsimp only [gName, List.set]
      rw [ej] at bj ⊢
      rw [wl0] at bj
      have g0 : GW H j 8 wl H2 := ⟨sm, hwH, L.map tmC, hw1, by rw [List.length_map]; lia, by rw [List.length_map]; exact l8, fun x hx => by obtain ⟨t, htt, rfl⟩ := List.mem_map.mp hx; exact tm_wa (ok t htt)⟩
      clear bj sw hwl hw1 sm hwH
      refine seq_abs fun M hM => ?_
      have go : ∀ H', GW H j 8 wl H' -> M [some (.ref ta), some (.int c), some (.ref wl), some (.int j), none, none] H' := fun H' g => hM _ _ (by
        clear hM M g0
        refine seq_abs fun M hM => ?_
        have go : ∀ (wp : Addr) H', GW H j 8 wp H' -> M [some (.ref ta), some (.int c), some (.ref wp), some (.int j), none, none] H' := fun wp H' g => hM _ _ (by
          clear hM M
          refine seq_abs fun M hM => ?_
          have go : ∀ H', GW H j 9 wp H' -> M [some (.ref ta), some (.int c), some (.ref wp), some (.int j), none, none] H' := fun H' g => hM _ _ (by
            clear hM M
            refine seq_abs fun M hM => ?_
            have go : ∀ H', GW H j 10 wp H' -> M [some (.ref ta), some (.int c), some (.ref wp), some (.int j), none, none] H' := fun H' g => hM _ _ (by
              clear hM M
              obtain ⟨sm, _, ws, hw, jl, k10, wa⟩ := g
              have wn : ws ≠ [] := fun z => by rw [z] at jl; exact absurd jl (Nat.not_lt_zero j)
              have wq : WA 740 (glue3 ws) := glue_wa wa (by lia)
              have az : Asc (glue3 ws) := wq.asc (by decide)
              refine ⟨rfl, _, rfl, ?_⟩
              dsimp only [tNil]
              refine join_of (K := K) (SqL.of hw) wn wa (by lia) ?_
              have zl := wq.2
              generalize glue3 ws = z at wq az zl ⊢
              clear wa wn hw jl k10 ws
              dsimp only [gName, List.set]
              have fin : ∀ (x : List Nat), WA 900 x -> Any27 K H' (.str (mkS x)) := fun x hx => .inr ⟨x, rfl, hx.asc (by decide)⟩
              refine ⟨_, rfl, _, _, rfl, rfl, (by show (0 : Int) < 8; decide), _, _, rfl, rfl, _, rfl, ite2 (fun _ => ⟨_, rfl, q _ H' sm (fin z (wq.mono (by decide)))⟩) (fun _ => ?_)⟩
              have L' : (mkS z).length = z.length := mkS_len _
              have bk := mod_in (c / 8) ((z.length : Int) + 1) (by lia)
              refine seq_abs fun M0 hM0 => hM0 _ _ ?_
              clear hM0 M0
              refine ⟨_, rfl, _, _, rfl, rfl, ⟨by decide, by decide⟩, _, rfl, _, rfl, az.len, _, _, rfl, rfl, _, _, rfl, rfl, (by rw [L']; show (0 : Int) < (z.length : Int) + 1; lia), ?_⟩
              dsimp only [gName, List.set]
              rw [L']
              obtain ⟨k, ek⟩ : ∃ k : Nat, c / 8 % ((z.length : Int) + 1) = (k : Int) := ⟨(c / 8 % ((z.length : Int) + 1)).toNat, by lia⟩
              rw [ek] at bk ⊢
              have bs := mod_in (c / 8 / ((z.length : Int) + 1)) 26 (by decide)
              obtain ⟨ch, hch, c8⟩ := sign_at bs.1 bs.2
              have sl : signs27.length <= sizeLine := by decide +kernel
              refine ⟨_, rfl, _, _, rfl, rfl, ⟨by decide, by decide⟩, _, rfl, _, rfl, az.len, _, _, rfl, rfl, _, _, rfl, rfl, ⟨by rw [L']; lia, by rw [L']; lia⟩, _, _, rfl, rfl, (by show (0 : Int) < 26; decide), signs27, _, ch, rfl, rfl, sl, by rw [L']; exact hch, ?_⟩
              dsimp only [gName, List.set]
              have wt : ∀ i : Nat, WA 740 (z.take i) := fun i => ⟨fun x hx => wq.1 x (List.mem_of_mem_take hx), Nat.le_trans (by rw [List.length_take]; exact Nat.min_le_right _ _) zl⟩
              have wd : ∀ i : Nat, WA 740 (z.drop i) := fun i => ⟨fun x hx => wq.1 x (List.mem_of_mem_drop hx), Nat.le_trans (by rw [List.length_drop]; exact Nat.sub_le _ _) zl⟩
              have wc : WA 1 [ch] := ⟨fun x hx => by rw [List.mem_singleton.mp hx]; exact c8, Nat.le_refl _⟩
              have tl : ∀ i : Nat, (z.take i).length + (z.drop i).length = z.length := fun i => by rw [List.length_take, List.length_drop]; lia
              have tl2 : ∀ i : Nat, (z.take i).length + (z.drop (i + 1)).length <= z.length := fun i => by rw [List.length_take, List.length_drop]; lia
              have pa4 : ∀ x : List Nat, x.length <= 900 -> (∀ y ∈ x, y < 128) -> Any27 K H' (.str (mkS x)) := fun x h1 h2 => fin x ⟨h2, h1⟩
              have mem2 : ∀ {a b : List Nat}, (∀ y ∈ a, y < 128) -> (∀ y ∈ b, y < 128) -> ∀ y ∈ a ++ b, y < 128 := fun {a b} h1 h2 y hy => (List.mem_append.mp hy).elim (h1 y) (h2 y)
              refine ⟨_, rfl, _, _, rfl, rfl, (by show (0 : Int) < 8; decide), rfl, _, rfl, ite2 (fun _ => ?_) (fun _ => ?_)⟩
              · refine ⟨_, rfl, _, rfl, _, rfl, _, rfl, az.len, ?_⟩
                rw [slice_to]
                refine ⟨_, rfl, _, _, rfl, rfl, by rw [mkS_len]; exact line_of (by have := (wt k).2; show _ + 1 <= _; lia), ?_⟩
                rw [show (⟨#[ch]⟩ : Str) = mkS [ch] from rfl, mk_app]
                refine ⟨_, rfl, _, rfl, _, rfl, _, rfl, az.len, ?_⟩
                rw [slice_from]
                refine ⟨_, _, rfl, rfl, by rw [mkS_len, mkS_len, List.length_append]; exact line_of (by have := tl k; show _ + 1 + _ <= _; lia), ?_⟩
                rw [mk_app]
                exact q _ H' sm (pa4 _ (by rw [List.length_append, List.length_append]; have := tl k; show _ + 1 + _ <= _; lia) (mem2 (mem2 (wt k).1 wc.1) (wd k).1))
              · refine ⟨_, rfl, _, _, rfl, rfl, (by show (0 : Int) < 8; decide), rfl, _, rfl, ite2 (fun _ => ?_) (fun _ => ?_)⟩
                · refine ⟨_, rfl, _, rfl, _, rfl, _, rfl, az.len, ?_⟩
                  rw [slice_to]
                  refine ⟨_, rfl, _, rfl, _, _, rfl, rfl, _, rfl, _, rfl, az.len, ?_⟩
                  rw [show (some ((k : Int) + 1)) = some ((k + 1 : Nat) : Int) from rfl, slice_from]
                  refine ⟨_, _, rfl, rfl, by rw [mkS_len, mkS_len]; exact line_of (by have := tl2 k; lia), ?_⟩
                  rw [mk_app]
                  exact q _ H' sm (pa4 _ (by rw [List.length_append]; have := tl2 k; lia) (mem2 (wt k).1 (wd (k + 1)).1))
                · refine ⟨_, rfl, _, _, rfl, rfl, (by show (0 : Int) < 8; decide), rfl, _, rfl, ite2 (fun _ => ?_) (fun _ => ?_)⟩
                  · refine ⟨_, rfl, _, rfl, _, rfl, _, rfl, az.len, ?_⟩
                    rw [slice_to]
                    refine ⟨_, rfl, _, _, rfl, rfl, by rw [mkS_len]; exact line_of (by have := (wt k).2; show _ + 1 <= _; lia), ?_⟩
                    rw [show (⟨#[ch]⟩ : Str) = mkS [ch] from rfl, mk_app]
                    refine ⟨_, rfl, _, rfl, _, _, rfl, rfl, _, rfl, _, rfl, az.len, ?_⟩
                    rw [show (some ((k : Int) + 1)) = some ((k + 1 : Nat) : Int) from rfl, slice_from]
                    refine ⟨_, _, rfl, rfl, by rw [mkS_len, mkS_len, List.length_append]; exact line_of (by have := tl2 k; show _ + 1 + _ <= _; lia), ?_⟩
                    rw [mk_app]
                    exact q _ H' sm (pa4 _ (by rw [List.length_append, List.length_append]; have := tl2 k; show _ + 1 + _ <= _; lia) (mem2 (mem2 (wt k).1 wc.1) (wd (k + 1)).1))
                  · refine ⟨_, rfl, _, rfl, _, rfl, _, rfl, az.len, ?_⟩
                    rw [slice_to]
                    exact q _ H' sm (pa4 _ (Nat.le_trans (wt k).2 (by decide)) (wt k).1))
            clear hM
            refine ⟨_, rfl, _, _, rfl, rfl, (by show (0 : Int) < 8; decide), rfl, _, rfl, ite2 (fun _ => ?_) (fun _ => go H' (g.mono (by decide)))⟩
            obtain ⟨sm, hn, ws, hw, jl, k9, wa⟩ := g
            have vl : (vsC ws).length = ws.length := List.length_map ..
            refine ⟨_, rfl, .inl ⟨rfl, _, SqL.of hw⟩, _, rfl, wp, _, j, _, rfl, rfl, hw, by rw [vl]; lia, by rw [vl]; lia, ?_⟩
            refine go _ ⟨same_put sm hn, hn, ws.take j ++ [48, 42, 120, 94, 55] :: ws.drop j, ?_, ?_, ?_, ?_⟩
            · rw [upd_same]
              unfold vsC
              rw [List.map_append, List.map_cons, List.map_take, List.map_drop]
              have e : ("0*x^7" : Str) = mkS [48, 42, 120, 94, 55] := by decide +kernel
              rw [e]
            · rw [List.length_append, List.length_take, List.length_cons, List.length_drop]; lia
            · rw [List.length_append, List.length_take, List.length_cons, List.length_drop]; lia
            · intro x hx
              rcases List.mem_append.mp hx with y | y
              · exact wa x (List.mem_of_mem_take y)
              · rcases List.mem_cons.mp y with rfl | y
                · exact ⟨by decide, by decide⟩
                · exact wa x (List.mem_of_mem_drop y))
          clear hM
          refine ⟨_, rfl, _, _, rfl, rfl, (by show (0 : Int) < 8; decide), rfl, _, rfl, ite2 (fun _ => ?_) (fun _ => go H' (g.mono (by decide)))⟩
          obtain ⟨sm, hn, ws, hw, jl, k8, wa⟩ := g
          have vl : (vsC ws).length = ws.length := List.length_map ..
          have gj : ws[j]? = some ws[j] := List.getElem?_eq_getElem jl
          generalize ws[j] = wj at gj
          refine ⟨_, rfl, .inl ⟨rfl, _, SqL.of hw⟩, _, rfl, _, rfl, _, rfl, wp, _, _, _, rfl, rfl, SqL.of hw, atI_nat (vs_get gj), wp, _, j, _, rfl, rfl, hw, by rw [vl]; lia, by rw [vl]; lia, ?_⟩
          refine go _ ⟨same_put sm hn, hn, ws.take j ++ wj :: ws.drop j, ?_, ?_, ?_, ?_⟩
          · rw [upd_same]
            unfold vsC
            rw [List.map_append, List.map_cons, List.map_take, List.map_drop]
          · rw [List.length_append, List.length_take, List.length_cons, List.length_drop]; lia
          · rw [List.length_append, List.length_take, List.length_cons, List.length_drop]; lia
          · intro x hx
            rcases List.mem_append.mp hx with y | y
            · exact wa x (List.mem_of_mem_take y)
            · rcases List.mem_cons.mp y with rfl | y
              · exact wa x (List.mem_of_getElem? gj)
              · exact wa x (List.mem_of_mem_drop y))
        clear hM
        refine ⟨_, rfl, _, _, rfl, rfl, (by show (0 : Int) < 8; decide), rfl, _, rfl, ite2 (fun _ => ?_) (fun _ => go wl H' g)⟩
        obtain ⟨sm, hn, ws, hw, jl, k8, wa⟩ := g
        have vl : (vsC ws).length = ws.length := List.length_map ..
        refine ⟨_, rfl, _, rfl, _, rfl, wl, _, rfl, SqL.of hw, fun p1 hp1 => ?_⟩
        rw [cut_from']
        have t1 := Same.new (o := HO.lst ((vsC ws).drop j)) hp1
        refine ⟨_, rfl, _, rfl, _, rfl, wl, _, rfl, SqL.of (t1 _ _ hw), fun p2 hp2 => ?_⟩
        rw [cut_to']
        have t2 := Same.new (o := HO.lst ((vsC ws).take j)) hp2
        refine ⟨p1, p2, _, _, rfl, rfl, t2 _ _ upd_same, upd_same, ?_, fun p3 hp3 => ?_⟩
        · rw [List.length_drop, List.length_take, vl]; exact line_of (by lia)
        have sm2 := (sm.trans t1).trans t2
        refine go p3 _ ⟨sm2.trans (Same.new hp3), none_of sm2 hp3, ws.drop j ++ ws.take j, ?_, ?_, ?_, ?_⟩
        · rw [upd_same]
          unfold vsC
          rw [List.map_append, List.map_take, List.map_drop]
        · rw [List.length_append, List.length_take, List.length_drop]; lia
        · rw [List.length_append, List.length_take, List.length_drop]; lia
        · intro x hx
          rcases List.mem_append.mp hx with y | y
          · exact wa x (List.mem_of_mem_drop y)
          · exact wa x (List.mem_of_mem_take y))
      clear hM
      refine ⟨_, rfl, _, _, rfl, rfl, (by show (0 : Int) < 8; decide), rfl, _, rfl, ite2 (fun _ => ?_) (fun _ => go H2 g0)⟩
      obtain ⟨sm, hn, ws, hw, jl, k8, wa⟩ := g0
      have g00 : ws[0]? = some ws[0] := List.getElem?_eq_getElem (by lia)
      generalize ws[0] = wj at g00
      refine ⟨_, rfl, wl, _, _, _, rfl, rfl, SqL.of hw, atI_nat (j := 0) (vs_get g00), _, rfl, _, rfl, wl, _, j, j, rfl, rfl, hw, ?_, ?_⟩
      · have vl : (vsC ws).length = ws.length := List.length_map ..
        rw [vl]
        unfold ixN
        rw [if_pos (by lia), if_pos (by lia)]
        simp
      · refine go _ ⟨same_put sm hn, hn, ws.set j wj, ?_, by rw [List.length_set]; exact jl, by rw [List.length_set]; exact k8, fun x hx => ?_⟩
        · rw [upd_same]
          unfold vsC
          rw [List.map_set]
        · rcases List.mem_or_eq_of_mem_set hx with y | rfl
          · exact wa x y
          · exact wa _ (List.mem_of_getElem? g00)
end
end My
namespace My
open PySem L2 PySem.NumText PyProof.Rows
def spLaw (K : W.Frag) : Sp := fun vs H Q _ => ∃ (a : Addr) (ns : List Int), vs = [.ref a] /\ SqL K H a (ns.map V.int) /\ ns.length <= 63 /\ ∀ H', Q (.bl true) H'
theorem coef_abs {c : Nat} {ts : List T3} (h : ∀ t ∈ ts, t.2.2.natAbs <= c) (k : Int × Int) : (coef ts k).natAbs <= ts.length * c := by
  induction ts with
  | nil => exact Nat.zero_le _
  | cons t ts ih =>
    have h1 := ih fun u hu => h u (List.mem_cons_of_mem _ hu)
    have h2 := h t (List.mem_cons_self ..)
    rw [coef_cons, List.length_cons, Nat.add_mul, Nat.one_mul, Nat.add_comm]
    refine Nat.le_trans (Int.natAbs_add_le _ _) (Nat.add_le_add ?_ h1)
    split
    · exact h2
    · exact Nat.zero_le _
theorem tm_ok {ts L : List T3} (pi : PolyIs ts L) (hc : ∀ k, (coef ts k).natAbs < 10 ^ 60) (hb : ∀ t ∈ ts, TB t) : ∀ t ∈ L, TmOk t := fun t ht => by
  obtain ⟨a, b⟩ := (pi.mem t).mp ht
  have ex : ∃ u ∈ ts, k3 u = k3 t := by
    refine Classical.byContradiction fun hn => a ?_
    rw [b]
    exact coef_zero fun u hu z => hn ⟨u, hu, z⟩
  obtain ⟨u, hu, e⟩ := ex
  obtain ⟨b1, b2, b3, b4, _⟩ := hb u hu
  have e1 : u.1 = t.1 := congrArg (fun z : Int × Int => z.1) e
  have e2 : u.2.1 = t.2.1 := congrArg (fun z : Int × Int => z.2) e
  rw [e1] at b1 b2
  rw [e2] at b3 b4
  refine ⟨b1, b2, b3, b4, a, ?_⟩
  rw [b]
  exact hc _
theorem cut311 (ns : List Int) : ∃ ms : List Int, cutV (ns.map V.int) (some 3) (some 11) = ms.map V.int /\ ms.length <= 8 := by
  refine ⟨(ns.drop (HT.sIx (ns.map V.int).length 0 (some 3))).take (HT.sIx (ns.map V.int).length (ns.map V.int).length (some 11) - HT.sIx (ns.map V.int).length 0 (some 3)), ?_, ?_⟩
  · unfold cutV
    rw [List.map_take, List.map_drop]
  · have e1 : HT.sIx (ns.map V.int).length 0 (some 3) = min 3 (ns.map V.int).length := HT.sIx_nat (ns.map V.int).length 0 3
    have e2 : HT.sIx (ns.map V.int).length (ns.map V.int).length (some 11) = min 11 (ns.map V.int).length := HT.sIx_nat (ns.map V.int).length (ns.map V.int).length 11
    rw [e1, e2, List.length_take, List.length_drop]
    simp only [List.length_map]
    lia
section
variable {P : Program} {w : World} {K : W.Frag} {mg : Str -> Option Value} {base : Heap}
theorem scLaw : FnScope ["_law_script", "_law_cells", "_law_terms", "_law_cell"] ["_law_script"] (defScope sLaw) := ⟨rfl, rfl, rfl, by decide +kernel, rfl, by decide +kernel, by decide +kernel⟩
theorem ndlc : (["_law_cell"] : List Str).Nodup := by decide +kernel
theorem ok_law {f : Addr} {fd : FuncData} (F : Fun K "law" "law" sLaw f fd) (T : TxP mg) (DA : Def P w K mg base 1 "_law_at" ["_law_script", "_law_k"] (spAt K)) (DT : Def P w K mg base 2 "_law_term" ["_law_cell"] spTerm) (DS : Def P w K mg base 1 "_law_sum" ["_law_terms"] (spGath K)) (DX : Def P w K mg base 2 "_law_text" ["_law_poly"] (spPText K))
    (DO : Def P w K mg base 1 "_law_odd" ["_law_cell"] (spMk K)) (DB : Def P w K mg base 2 "_law_bound" ["_law_cell"] (spMk K)) (DP : Def P w K mg base 3 "_law_spoilt" ["_law_terms", "_law_cell"] (spSpoilt K)) (DR : Def P w K mg base 6 "_law_right" ["_law_thing"] (spRight K)) : FnOk P w K mg base CX0 7 f fd ["_law_script"] (spLaw K) := by
  refine F.ok scLaw (fun vs H Q E h => ?_) (fun cdv A outer s H vs Q E hr h => ?_)
  · obtain ⟨a, ns, rfl, _⟩ := h; rfl
  · obtain ⟨a, ns, rfl, hq, hlen, q⟩ := h
    have hr1 : Room 1 _ := hr.mono (by decide)
    have hr2 : Room 2 _ := hr.mono (by decide)
    have hr3 : Room 3 _ := hr.mono (by decide)
    refine ⟨_, pss_cons (ps_set (i := 1) scLaw.nd rfl (Or.inl rfl) (pe_slice (sl_listK K) (pv 0) (po_some pe_int) (po_some pe_int)))
      (pss_cons (ps_if (pt_cmpR (op_eqNilK K (units66 hr)) (pv 1) (pe_lst pa_nil) (nomark _)) (pss_one (ps_set (i := 1) scLaw.nd rfl (Or.inl rfl) (pe_lst (pa_cons (pe_def DA hr1 rfl (pa_cons (pv 0) (pa_cons pe_int pa_nil))) pa_nil)))) pss_nil)
      (pss_cons (ps_set (i := 2) scLaw.nd rfl (Or.inl rfl) (pe_def DS hr1 rfl (pa_cons (pe_comp (N' := ["_law_cell"]) (fr := [none]) (compOk_of (by rfl)) rfl (pi_seqK K .l (pv 1)) (fun _ _ _ _ => pg_name (i := 0) ndlc rfl (Or.inl rfl) (Or.inr rfl)) (fun _ _ _ _ => pifs_nil) (fun _ _ _ _ => pe_def DT hr2 rfl (pa_cons (pv 0) pa_nil))) pa_nil)))
      (pss_cons (ps_if (pt_cmpR (op_eqNilT (units66 hr)) (pv 2) (pe_tup pa_nil) (nomark _)) (pss_one (ps_set (i := 2) scLaw.nd rfl (Or.inl rfl) (pe_tup (pa_cons (pe_tup (pa_cons pe_int (pa_cons pe_int (pa_cons pe_int pa_nil)))) pa_nil)))) pss_nil)
      (pss_cons (ps_for PassesOwn.never rfl (pi_seqK K .l (pe_op op_cat (pe_slice (sl_listK K) (pv 0) po_none (po_some pe_int)) (pe_slice (sl_listK K) (pv 0) (po_some pe_int) (po_some pe_int)))) (pg_name (i := 3) scLaw.nd rfl (Or.inl rfl))
        (pss_one (ps_if (PW.pt (pw_or (pt_not (pt_val (pe_def DR hr rfl (pa_cons (pe_def DO hr1 rfl (pa_cons (pv 3) pa_nil)) pa_nil)))) (pw_or1 (pt_not (pt_val (pe_def DR hr rfl (pa_cons (pe_def DP hr3 rfl (pa_cons (pv 2) (pa_cons (pv 3) pa_nil))) pa_nil))))))) (pss_one (ps_ret pe_bl)) pss_nil)))
      (pss_one (ps_ret (pe_and (pe_def DR hr rfl (pa_cons (pe_def DB hr2 rfl (pa_cons (pe_def DA hr1 rfl (pa_cons (pv 0) (pa_cons pe_int pa_nil))) pa_nil)) pa_nil)) (pe_one (pe_def DR hr rfl (pa_cons (pe_def DX hr2 rfl (pa_cons (pv 2) pa_nil)) pa_nil)))))))))), ?_⟩
    obtain ⟨ms, em, ml⟩ := cut311 ns
    refine ⟨_, rfl, _, rfl, _, rfl, a, _, rfl, hq, fun p1 hp1 => ?_⟩
    rw [em]
    have s1 := Same.new (o := HO.lst (ms.map V.int)) hp1
    have h1 : (upd H p1 (.lst (ms.map V.int))) p1 = some (.lst (ms.map V.int)) := upd_same
    generalize upd H p1 (.lst (ms.map V.int)) = H1 at s1 h1 ⊢
    dsimp only [gName, List.set]
    refine seq_abs fun M hM => ?_
    have go : ∀ (p : Addr) (ms : List Int) (H' : Hp), Same H H' -> H' p = some (.lst (ms.map V.int)) -> ms.length <= 8 -> M [some (.ref a), some (.ref p), none, none] H' := fun p ms H' s' hp ml => hM _ _ (by
      clear hM M
      refine ⟨_, rfl, p, rfl, ⟨_, SqL.of hp⟩, ?_⟩
      refine comp_seq (k := .l) (a := p) (xs := ms.map V.int) (fun σ => ∃ u, σ = [u]) (fun i ys H5 => Same H' H5 /\ ∃ ts, Paired (TermAt H5) ys ts /\ ts.length = i /\ ∀ t ∈ ts, TB t) ⟨_, rfl⟩ ⟨Same.refl _, [], .nil, rfl, fun _ z => nomatch z⟩ (by rw [List.length_map]; exact lt_line (by lia)) (fun i ys H5 _ z => SqL.of (z.1 _ _ hp)) ?_ ?_
      · rintro i x ys σ H2 N hx ⟨u, rfl⟩ ⟨sm, ts, ht, tl, hb⟩ hN
        obtain ⟨cell, rfl⟩ : ∃ m, x = V.int m := by
          rw [List.getElem?_map] at hx
          cases e : ms[i]? with
          | none => rw [e] at hx; cases hx
          | some m => rw [e] at hx; exact ⟨m, (Option.some.inj hx).symm⟩
        dsimp only [gName, List.set]
        refine yesT ⟨_, rfl, _, rfl, fun t d H3 s3 tb hd => ?_⟩
        refine hN _ _ _ ⟨_, rfl⟩ ⟨sm.trans s3, ts ++ [t], L2.Paired.snoc (terms_same ht s3) ⟨d, rfl, hd⟩, by simp [tl], fun u hu => ?_⟩ (by simp)
        rcases List.mem_append.mp hu with hu | hu
        · exact hb u hu
        · rw [List.mem_singleton.mp hu]; exact tb
      rintro ys H2 ⟨sm, ts, ht, tl, hb⟩ l hl
      rw [List.length_map] at tl
      have s3 := Same.new (o := HO.lst ys) hl
      have hl3 : (upd H2 l (.lst ys)) l = some (.lst ys) := upd_same
      have ht3 := terms_same ht s3
      have s13 := (s'.trans sm).trans s3
      generalize upd H2 l (.lst ys) = H3 at s3 hl3 ht3 s13 ⊢
      refine ⟨.l, l, ys, ts, rfl, SqL.of hl3, termsK ht3, by lia, fun v L H4 s4 pis pll pat => ?_⟩
      have hc : ∀ k, (coef ts k).natAbs < 10 ^ 60 := fun k => by
        refine Nat.lt_of_le_of_lt (coef_abs (c := 10 ^ 58) (fun u hu => (hb u hu).2.2.2.2) k) ?_
        exact Nat.lt_of_le_of_lt (Nat.mul_le_mul_right _ (show ts.length <= 8 by lia)) (by decide +kernel)
      have ok := tm_ok pis hc hb
      have s14 := s13.trans s4
      have L8 : L.length <= 8 := by lia
      clear hc hb pis pll ht3 ht hl3 s13 s4 s3 sm tl
      dsimp only [gName, List.set]
      refine seq_abs fun M hM => ?_
      have go : ∀ (v : V) (L : List T3) (H' : Hp), Same H H' -> PolyAt H' v L -> (∀ t ∈ L, TmOk t) -> 1 <= L.length -> L.length <= 8 -> M [some (.ref a), some (.ref p), some v, none] H' := fun v L H' s' pa ok l1 l8 => hM _ _ (by
        clear hM M
        refine seq_abs fun M hM => ?_
        obtain ⟨k1, e1, m1⟩ := cut_map ns none (some 3)
        obtain ⟨k2, e2, m2⟩ := cut_map ns (some 11) (some 63)
        refine ⟨_, rfl, _, rfl, a, _, rfl, s'.seq hq, fun q1 hq1 => ?_⟩
        rw [e1]
        have t1 := Same.new (o := HO.lst (k1.map V.int)) hq1
        refine ⟨_, rfl, _, rfl, _, rfl, a, _, rfl, (s'.trans t1).seq hq, fun q2 hq2 => ?_⟩
        rw [e2]
        have t2 := Same.new (o := HO.lst (k2.map V.int)) hq2
        refine ⟨q1, q2, _, _, rfl, rfl, t2 _ _ upd_same, upd_same, by rw [List.length_map, List.length_map]; exact line_of (by lia), fun q3 hq3 => ?_⟩
        have t3 := Same.new (o := HO.lst (k1.map V.int ++ k2.map V.int)) hq3
        have s5 := ((s'.trans t1).trans t2).trans t3
        have h5 : (upd (upd (upd H' q1 (HO.lst (k1.map V.int))) q2 (HO.lst (k2.map V.int))) q3 (HO.lst (k1.map V.int ++ k2.map V.int))) q3 = some (.lst ((k1 ++ k2).map V.int)) := by rw [upd_same, List.map_append]
        have pa5 := pa.same ((t1.trans t2).trans t3)
        generalize upd (upd (upd H' q1 (HO.lst (k1.map V.int))) q2 (HO.lst (k2.map V.int))) q3 (HO.lst (k1.map V.int ++ k2.map V.int)) = H5 at s5 h5 pa5 ⊢
        generalize k1 ++ k2 = cs at h5
        refine ⟨q3, rfl, ⟨_, SqL.of h5⟩, for_seq (k := .l) (K := K) (a := q3) (xs := cs.map V.int) (fun i σ H6 => Same H5 H6 /\ ∃ u, σ = [some (.ref a), some (.ref p), some v, u]) ⟨Same.refl _, _, rfl⟩ (fun i σ H6 _ z => SqL.of (z.1 _ _ h5)) ?_ ?_⟩
        · rintro i x σ H6 hxi ⟨s6, u, rfl⟩
          obtain ⟨c, rfl⟩ : ∃ c, x = V.int c := by
            rw [List.getElem?_map] at hxi
            cases e : cs[i]? with
            | none => rw [e] at hxi; cases hxi
            | some k => rw [e] at hxi; exact ⟨k, (Option.some.inj hxi).symm⟩
          dsimp only [gName, List.set]
          refine ⟨_, rfl, c, rfl, fun x H7 s7 ax => ⟨x, rfl, ax, fun H8 s8 => ⟨_, rfl, iteF ?_⟩⟩⟩
          have s68 := s6.trans (s7.trans s8)
          refine ⟨_, rfl, _, rfl, v, L, c, rfl, pa5.same s68, ok, l1, l8, fun x2 H9 s9 ax2 => ⟨x2, rfl, ax2, fun H10 s10 => ⟨_, rfl, iteF ⟨s68.trans (s9.trans s10), _, rfl⟩⟩⟩⟩
        · rintro σ H6 ⟨s6, u, rfl⟩
          refine hM _ _ ?_
          clear hM M
          refine ⟨_, rfl, a, ns, 0, rfl, (s5.trans s6).seq hq, _, rfl, fun x H7 s7 ax => ⟨x, rfl, ax, fun H8 s8 => ⟨_, rfl, iteT ?_⟩⟩⟩
          refine ⟨_, rfl, v, L, rfl, pa5.same (s6.trans (s7.trans s8)), ok, by lia, fun H9 s9 => ⟨_, rfl, .inr ⟨_, rfl, ?_⟩, fun H10 _ => q H10⟩⟩
          have wp : WA 600 (polyC L) := by
            unfold polyC
            rw [if_neg (fun z => by rw [z] at l1; exact absurd l1 (by decide))]
            exact glue_wa (k := 71) (fun x hx => by obtain ⟨t, htt, rfl⟩ := List.mem_map.mp hx; exact tm_wa (ok t htt)) (by rw [List.length_map]; lia)
          exact wp.asc (by decide))
      clear hM
      obtain ⟨cc, rs, rfl, hcc, htt⟩ := id pat.ex
      have rl := Paired.length htt
      refine ⟨_, rfl, Nat.zero_le _, fun e0 he0 => ?_⟩
      have s0 := Same.new (o := HO.tup []) he0
      refine ⟨cc, e0, rs, rfl, rfl, SqT.of (s0 _ _ hcc), SqT.of upd_same, _, rfl, ?_⟩
      have pat0 := pat.same s0
      replace s14 := s14.trans s0
      generalize upd H4 e0 (.tup []) = H6 at s0 pat0 s14 ⊢
      by_cases hz : rs = []
      · rw [decide_eq_true hz]
        refine iteT ⟨by show 3 <= sizeLine; decide, fun e3 he3 => ⟨by show 1 <= sizeLine; decide, fun e4 he4 => ?_⟩⟩
        have s17 := Same.new (o := HO.tup [.int 0, .int 0, .int 1]) he3
        have s18 := Same.new (o := HO.tup [.ref e3]) he4
        have one : TmOk (0, 0, 1) := ⟨by decide, by decide, by decide, by decide, by decide, by decide⟩
        exact go (.ref e4) [(0, 0, 1)] _ ((s14.trans s17).trans s18) ⟨e4, [.ref e3], rfl, upd_same, .cons ⟨e3, rfl, s18 _ _ upd_same⟩ .nil⟩ (fun t ht => by rw [List.mem_singleton.mp ht]; exact one) (Nat.le_refl _) (by show 1 <= 8; decide)
      · rw [decide_eq_false hz]
        refine iteF (go (.ref cc) L _ s14 pat0 ok ?_ L8)
        cases hL : L with
        | nil => rw [hL] at rl; exact absurd (List.length_eq_zero_iff.mp rl) hz
        | cons x r => rw [List.length_cons]; lia)
    clear hM
    refine ⟨_, rfl, by show 0 <= sizeLine; decide, fun r0 hr0 => ?_⟩
    have s2 := Same.new (o := HO.lst []) hr0
    refine ⟨p1, r0, _, rfl, rfl, SqL.of (s2 _ _ h1), SqL.of upd_same, _, rfl, ?_⟩
    replace h1 := s2 _ _ h1
    replace s1 := s1.trans s2
    generalize upd H1 r0 (HO.lst []) = H2 at s1 h1 ⊢
    by_cases hz : ms.map V.int = []
    · rw [decide_eq_true hz]
      refine iteT ⟨_, rfl, a, ns, 2, rfl, s1.seq hq, by show 1 <= sizeLine; decide, fun r1 hr1 => ?_⟩
      exact go r1 [ns.getD 2 0] _ (s1.trans (Same.new hr1)) (by rw [upd_same]; rfl) (by show 1 <= 8; decide)
    · rw [decide_eq_false hz]
      exact iteF (go p1 ms H2 s1 h1 ml)
end
end My
namespace My
open PySem L2
def mroT (K : W.Frag) (C : Addr) : List Value := match K.lookup C with | some o => (match o.data with | .cls cd => cd.mro.tail | _ => []) | none => []
def cs10 (a0 a1 a2 a3 a4 a5 a6 a7 a8 a9 : Addr) : Fin 10 -> Addr := fun i => match i with | 0 => a0 | 1 => a1 | 2 => a2 | 3 => a3 | 4 => a4 | 5 => a5 | 6 => a6 | 7 => a7 | 8 => a8 | 9 => a9
def cs4 (a b c d : Addr) : Fin 4 -> Addr := fun i => match i with | 0 => a | 1 => b | 2 => c | 3 => d
def chk27 (K : W.Frag) (C : Addr) (n : Fin 10 -> Addr) (o : Fin 4 -> Addr) (W : Addr) : Bool := excB K C (mroT K C) && (excB K W (mroT K W) && (excKB K C && (decide (PySem.W.subIn K (.ref C) (.ref W) = some true) && (decide (PySem.W.kitOne K (.ref C) (.type "ValueError") = some true) && (decide (PySem.W.kitOne K (.ref C) (.ref C) = some true) &&
  (decide (PySem.W.kitAny K (.ref C) [.ref (n 0), .ref (n 1), .ref (n 2), .ref (n 3), .ref (n 4), .ref (n 5), .ref (n 6), .ref (n 7), .ref (n 8), .ref (n 9)] = some false) && decide (PySem.W.kitAny K (.ref C) [.ref (o 0), .ref (o 1), .ref (o 2), .ref (o 3)] = some false)))))))
theorem chk27_of {K : W.Frag} {C W : Addr} {n : Fin 10 -> Addr} {o : Fin 4 -> Addr} (h : chk27 K C n o W = true) : excB K C (mroT K C) = true /\ excB K W (mroT K W) = true /\ excKB K C = true /\ PySem.W.subIn K (.ref C) (.ref W) = some true /\ PySem.W.kitOne K (.ref C) (.type "ValueError") = some true /\ PySem.W.kitOne K (.ref C) (.ref C) = some true /\
    PySem.W.kitAny K (.ref C) [.ref (n 0), .ref (n 1), .ref (n 2), .ref (n 3), .ref (n 4), .ref (n 5), .ref (n 6), .ref (n 7), .ref (n 8), .ref (n 9)] = some false /\ PySem.W.kitAny K (.ref C) [.ref (o 0), .ref (o 1), .ref (o 2), .ref (o 3)] = some false := by
  unfold chk27 at h
  simp only [Bool.and_eq_true, decide_eq_true_eq] at h
  exact h
theorem src_mk {K : W.Frag} {h : Heap} {mg : Str -> Option Value} {x : Str} {st : Stmt} {f : Addr} {ps : List Str} {oc : Value} {od an : Option Addr} {osl : Array (Option Value)} {kV doc pm cdv ct : Value} (X : K.In h) (G : h.Ns mainGlobals mg)
    (a : PySem.W.nsIn K mainGlobals x = some (some (.ref f))) (l : K.lookup f = some ⟨oc, od, .func (PySem.W.fnOf x x (defArgs st) (defBody st) (defScope st) .none kV doc pm an cdv ct), osl⟩) (c : PySem.W.codeIn K cdv x = true) (k : PySem.W.keepIn K (.ref f) = true)
    (hb : ∀ (kV doc pm : Value) (an : Option Addr) (cdv ct : Value) (us : List Value), us.length = ps.length -> bindArgs (PySem.W.fnOf x x (defArgs st) (defBody st) (defScope st) .none kV doc pm an cdv ct) ⟨us, []⟩ = pure (ps.zip us)) : Src K mg x st ps :=
  ⟨_, _, fun_mk (st := st) l c k, (fun_mk (st := st) l c k).binds hb, PySem.W.mg_of X G a⟩
theorem lenC {p : List Value -> Prop} {n : Nat} (h : ∀ (a : Value) (us : List Value), us.length = n -> p (a :: us)) : ∀ us : List Value, us.length = n + 1 -> p us := fun us hl => by
  cases us with
  | nil => cases hl
  | cons a us => exact h a us (Nat.succ.inj hl)
theorem len0 {p : List Value -> Prop} (h : p []) : ∀ us : List Value, us.length = 0 -> p us := fun us hl => by
  rw [List.length_eq_zero_iff.mp hl]
  exact h
theorem len1 {p : List Value -> Prop} (h : ∀ a, p [a]) : ∀ us : List Value, us.length = 1 -> p us := lenC fun a => len0 (p := fun us => p (a :: us)) (h a)
theorem len2 {p : List Value -> Prop} (h : ∀ a b, p [a, b]) : ∀ us : List Value, us.length = 2 -> p us := lenC fun a => len1 (p := fun us => p (a :: us)) (h a)
theorem all_mk {l : PySem.W.OpenLaw} {w : World} {K : W.Frag} {h : Heap} {mg : Str -> Option Value} {fa : Addr} (X : K.In h) (G : h.Ns mainGlobals mg) (hfa : mg "law" = some (.ref fa))
    {f0 : Addr} {od0 an0 : Option Addr} {sl0 : Array (Option Value)} {oc0 kV0 dc0 pm0 cd0 ct0 : Value}
    (a0 : PySem.W.nsIn K mainGlobals "read_poly" = some (some (.ref f0))) (l0 : K.lookup f0 = some ⟨oc0, od0, .func (PySem.W.fnOf "read_poly" "read_poly" (defArgs sRPoly) (defBody sRPoly) (defScope sRPoly) .none kV0 dc0 pm0 an0 cd0 ct0), sl0⟩) (c0 : PySem.W.codeIn K cd0 "read_poly" = true) (k0 : PySem.W.keepIn K (.ref f0) = true)
    {f1 : Addr} {od1 an1 : Option Addr} {sl1 : Array (Option Value)} {oc1 kV1 dc1 pm1 cd1 ct1 : Value}
    (a1 : PySem.W.nsIn K mainGlobals "read_term" = some (some (.ref f1))) (l1 : K.lookup f1 = some ⟨oc1, od1, .func (PySem.W.fnOf "read_term" "read_term" (defArgs sRTerm) (defBody sRTerm) (defScope sRTerm) .none kV1 dc1 pm1 an1 cd1 ct1), sl1⟩) (c1 : PySem.W.codeIn K cd1 "read_term" = true) (k1 : PySem.W.keepIn K (.ref f1) = true)
    {f2 : Addr} {od2 an2 : Option Addr} {sl2 : Array (Option Value)} {oc2 kV2 dc2 pm2 cd2 ct2 : Value}
    (a2 : PySem.W.nsIn K mainGlobals "read_times" = some (some (.ref f2))) (l2 : K.lookup f2 = some ⟨oc2, od2, .func (PySem.W.fnOf "read_times" "read_times" (defArgs sRTimes) (defBody sRTimes) (defScope sRTimes) .none kV2 dc2 pm2 an2 cd2 ct2), sl2⟩) (c2 : PySem.W.codeIn K cd2 "read_times" = true) (k2 : PySem.W.keepIn K (.ref f2) = true)
    {f3 : Addr} {od3 an3 : Option Addr} {sl3 : Array (Option Value)} {oc3 kV3 dc3 pm3 cd3 ct3 : Value}
    (a3 : PySem.W.nsIn K mainGlobals "read_power" = some (some (.ref f3))) (l3 : K.lookup f3 = some ⟨oc3, od3, .func (PySem.W.fnOf "read_power" "read_power" (defArgs sRPower) (defBody sRPower) (defScope sRPower) .none kV3 dc3 pm3 an3 cd3 ct3), sl3⟩) (c3 : PySem.W.codeIn K cd3 "read_power" = true) (k3 : PySem.W.keepIn K (.ref f3) = true)
    {f4 : Addr} {od4 an4 : Option Addr} {sl4 : Array (Option Value)} {oc4 kV4 dc4 pm4 cd4 ct4 : Value}
    (a4 : PySem.W.nsIn K mainGlobals "read_above_nought" = some (some (.ref f4))) (l4 : K.lookup f4 = some ⟨oc4, od4, .func (PySem.W.fnOf "read_above_nought" "read_above_nought" (defArgs sRAbove) (defBody sRAbove) (defScope sRAbove) .none kV4 dc4 pm4 an4 cd4 ct4), sl4⟩) (c4 : PySem.W.codeIn K cd4 "read_above_nought" = true) (k4 : PySem.W.keepIn K (.ref f4) = true)
    {f5 : Addr} {od5 an5 : Option Addr} {sl5 : Array (Option Value)} {oc5 kV5 dc5 pm5 cd5 ct5 : Value}
    (a5 : PySem.W.nsIn K mainGlobals "_law_at" = some (some (.ref f5))) (l5 : K.lookup f5 = some ⟨oc5, od5, .func (PySem.W.fnOf "_law_at" "_law_at" (defArgs sAt) (defBody sAt) (defScope sAt) .none kV5 dc5 pm5 an5 cd5 ct5), sl5⟩) (c5 : PySem.W.codeIn K cd5 "_law_at" = true) (k5 : PySem.W.keepIn K (.ref f5) = true)
    {f6 : Addr} {od6 an6 : Option Addr} {sl6 : Array (Option Value)} {oc6 kV6 dc6 pm6 cd6 ct6 : Value}
    (a6 : PySem.W.nsIn K mainGlobals "_law_number" = some (some (.ref f6))) (l6 : K.lookup f6 = some ⟨oc6, od6, .func (PySem.W.fnOf "_law_number" "_law_number" (defArgs sNumber) (defBody sNumber) (defScope sNumber) .none kV6 dc6 pm6 an6 cd6 ct6), sl6⟩) (c6 : PySem.W.codeIn K cd6 "_law_number" = true) (k6 : PySem.W.keepIn K (.ref f6) = true)
    {f7 : Addr} {od7 an7 : Option Addr} {sl7 : Array (Option Value)} {oc7 kV7 dc7 pm7 cd7 ct7 : Value}
    (a7 : PySem.W.nsIn K mainGlobals "_law_term" = some (some (.ref f7))) (l7 : K.lookup f7 = some ⟨oc7, od7, .func (PySem.W.fnOf "_law_term" "_law_term" (defArgs sTerm) (defBody sTerm) (defScope sTerm) .none kV7 dc7 pm7 an7 cd7 ct7), sl7⟩) (c7 : PySem.W.codeIn K cd7 "_law_term" = true) (k7 : PySem.W.keepIn K (.ref f7) = true)
    {f8 : Addr} {od8 an8 : Option Addr} {sl8 : Array (Option Value)} {oc8 kV8 dc8 pm8 cd8 ct8 : Value}
    (a8 : PySem.W.nsIn K mainGlobals "_law_sum" = some (some (.ref f8))) (l8 : K.lookup f8 = some ⟨oc8, od8, .func (PySem.W.fnOf "_law_sum" "_law_sum" (defArgs sSum) (defBody sSum) (defScope sSum) .none kV8 dc8 pm8 an8 cd8 ct8), sl8⟩) (c8 : PySem.W.codeIn K cd8 "_law_sum" = true) (k8 : PySem.W.keepIn K (.ref f8) = true)
    {f9 : Addr} {od9 an9 : Option Addr} {sl9 : Array (Option Value)} {oc9 kV9 dc9 pm9 cd9 ct9 : Value}
    (a9 : PySem.W.nsIn K mainGlobals "_law_factor" = some (some (.ref f9))) (l9 : K.lookup f9 = some ⟨oc9, od9, .func (PySem.W.fnOf "_law_factor" "_law_factor" (defArgs sFactor) (defBody sFactor) (defScope sFactor) .none kV9 dc9 pm9 an9 cd9 ct9), sl9⟩) (c9 : PySem.W.codeIn K cd9 "_law_factor" = true) (k9 : PySem.W.keepIn K (.ref f9) = true)
    {f10 : Addr} {od10 an10 : Option Addr} {sl10 : Array (Option Value)} {oc10 kV10 dc10 pm10 cd10 ct10 : Value}
    (a10 : PySem.W.nsIn K mainGlobals "_law_text" = some (some (.ref f10))) (l10 : K.lookup f10 = some ⟨oc10, od10, .func (PySem.W.fnOf "_law_text" "_law_text" (defArgs sText) (defBody sText) (defScope sText) .none kV10 dc10 pm10 an10 cd10 ct10), sl10⟩) (c10 : PySem.W.codeIn K cd10 "_law_text" = true) (k10 : PySem.W.keepIn K (.ref f10) = true)
    {f11 : Addr} {od11 an11 : Option Addr} {sl11 : Array (Option Value)} {oc11 kV11 dc11 pm11 cd11 ct11 : Value}
    (a11 : PySem.W.nsIn K mainGlobals "_law_figures" = some (some (.ref f11))) (l11 : K.lookup f11 = some ⟨oc11, od11, .func (PySem.W.fnOf "_law_figures" "_law_figures" (defArgs sFigs) (defBody sFigs) (defScope sFigs) .none kV11 dc11 pm11 an11 cd11 ct11), sl11⟩) (c11 : PySem.W.codeIn K cd11 "_law_figures" = true) (k11 : PySem.W.keepIn K (.ref f11) = true)
    {f12 : Addr} {od12 an12 : Option Addr} {sl12 : Array (Option Value)} {oc12 kV12 dc12 pm12 cd12 ct12 : Value}
    (a12 : PySem.W.nsIn K mainGlobals "_law_power" = some (some (.ref f12))) (l12 : K.lookup f12 = some ⟨oc12, od12, .func (PySem.W.fnOf "_law_power" "_law_power" (defArgs sLPow) (defBody sLPow) (defScope sLPow) .none kV12 dc12 pm12 an12 cd12 ct12), sl12⟩) (c12 : PySem.W.codeIn K cd12 "_law_power" = true) (k12 : PySem.W.keepIn K (.ref f12) = true)
    {f13 : Addr} {od13 an13 : Option Addr} {sl13 : Array (Option Value)} {oc13 kV13 dc13 pm13 cd13 ct13 : Value}
    (a13 : PySem.W.nsIn K mainGlobals "_law_read_term" = some (some (.ref f13))) (l13 : K.lookup f13 = some ⟨oc13, od13, .func (PySem.W.fnOf "_law_read_term" "_law_read_term" (defArgs sLTerm) (defBody sLTerm) (defScope sLTerm) .none kV13 dc13 pm13 an13 cd13 ct13), sl13⟩) (c13 : PySem.W.codeIn K cd13 "_law_read_term" = true) (k13 : PySem.W.keepIn K (.ref f13) = true)
    {f14 : Addr} {od14 an14 : Option Addr} {sl14 : Array (Option Value)} {oc14 kV14 dc14 pm14 cd14 ct14 : Value}
    (a14 : PySem.W.nsIn K mainGlobals "_law_read" = some (some (.ref f14))) (l14 : K.lookup f14 = some ⟨oc14, od14, .func (PySem.W.fnOf "_law_read" "_law_read" (defArgs sLRead) (defBody sLRead) (defScope sLRead) .none kV14 dc14 pm14 an14 cd14 ct14), sl14⟩) (c14 : PySem.W.codeIn K cd14 "_law_read" = true) (k14 : PySem.W.keepIn K (.ref f14) = true)
    {f15 : Addr} {od15 an15 : Option Addr} {sl15 : Array (Option Value)} {oc15 kV15 dc15 pm15 cd15 ct15 : Value}
    (a15 : PySem.W.nsIn K mainGlobals "_law_odd" = some (some (.ref f15))) (l15 : K.lookup f15 = some ⟨oc15, od15, .func (PySem.W.fnOf "_law_odd" "_law_odd" (defArgs sOdd) (defBody sOdd) (defScope sOdd) .none kV15 dc15 pm15 an15 cd15 ct15), sl15⟩) (c15 : PySem.W.codeIn K cd15 "_law_odd" = true) (k15 : PySem.W.keepIn K (.ref f15) = true)
    {f16 : Addr} {od16 an16 : Option Addr} {sl16 : Array (Option Value)} {oc16 kV16 dc16 pm16 cd16 ct16 : Value}
    (a16 : PySem.W.nsIn K mainGlobals "_law_bound" = some (some (.ref f16))) (l16 : K.lookup f16 = some ⟨oc16, od16, .func (PySem.W.fnOf "_law_bound" "_law_bound" (defArgs sBound) (defBody sBound) (defScope sBound) .none kV16 dc16 pm16 an16 cd16 ct16), sl16⟩) (c16 : PySem.W.codeIn K cd16 "_law_bound" = true) (k16 : PySem.W.keepIn K (.ref f16) = true)
    {f17 : Addr} {od17 an17 : Option Addr} {sl17 : Array (Option Value)} {oc17 kV17 dc17 pm17 cd17 ct17 : Value}
    (a17 : PySem.W.nsIn K mainGlobals "_law_spoilt" = some (some (.ref f17))) (l17 : K.lookup f17 = some ⟨oc17, od17, .func (PySem.W.fnOf "_law_spoilt" "_law_spoilt" (defArgs sSpoilt) (defBody sSpoilt) (defScope sSpoilt) .none kV17 dc17 pm17 an17 cd17 ct17), sl17⟩) (c17 : PySem.W.codeIn K cd17 "_law_spoilt" = true) (k17 : PySem.W.keepIn K (.ref f17) = true)
    {f18 : Addr} {od18 an18 : Option Addr} {sl18 : Array (Option Value)} {oc18 kV18 dc18 pm18 cd18 ct18 : Value}
    (a18 : PySem.W.nsIn K mainGlobals "_law_only" = some (some (.ref f18))) (l18 : K.lookup f18 = some ⟨oc18, od18, .func (PySem.W.fnOf "_law_only" "_law_only" (defArgs sOnly) (defBody sOnly) (defScope sOnly) .none kV18 dc18 pm18 an18 cd18 ct18), sl18⟩) (c18 : PySem.W.codeIn K cd18 "_law_only" = true) (k18 : PySem.W.keepIn K (.ref f18) = true)
    {f19 : Addr} {od19 an19 : Option Addr} {sl19 : Array (Option Value)} {oc19 kV19 dc19 pm19 cd19 ct19 : Value}
    (a19 : PySem.W.nsIn K mainGlobals "_law_refused" = some (some (.ref f19))) (l19 : K.lookup f19 = some ⟨oc19, od19, .func (PySem.W.fnOf "_law_refused" "_law_refused" (defArgs sRefd) (defBody sRefd) (defScope sRefd) .none kV19 dc19 pm19 an19 cd19 ct19), sl19⟩) (c19 : PySem.W.codeIn K cd19 "_law_refused" = true) (k19 : PySem.W.keepIn K (.ref f19) = true)
    {f20 : Addr} {od20 an20 : Option Addr} {sl20 : Array (Option Value)} {oc20 kV20 dc20 pm20 cd20 ct20 : Value}
    (a20 : PySem.W.nsIn K mainGlobals "_law_right" = some (some (.ref f20))) (l20 : K.lookup f20 = some ⟨oc20, od20, .func (PySem.W.fnOf "_law_right" "_law_right" (defArgs sRight) (defBody sRight) (defScope sRight) .none kV20 dc20 pm20 an20 cd20 ct20), sl20⟩) (c20 : PySem.W.codeIn K cd20 "_law_right" = true) (k20 : PySem.W.keepIn K (.ref f20) = true)
    {f21 : Addr} {od21 an21 : Option Addr} {sl21 : Array (Option Value)} {oc21 kV21 dc21 pm21 cd21 ct21 : Value}
    (a21 : PySem.W.nsIn K mainGlobals "law" = some (some (.ref f21))) (l21 : K.lookup f21 = some ⟨oc21, od21, .func (PySem.W.fnOf "law" "law" (defArgs sLaw) (defBody sLaw) (defScope sLaw) .none kV21 dc21 pm21 an21 cd21 ct21), sl21⟩) (c21 : PySem.W.codeIn K cd21 "law" = true) (k21 : PySem.W.keepIn K (.ref f21) = true)
    (z0 : PySem.W.nsIn K mainGlobals "isinstance" = some none)
    (z1 : PySem.W.nsIn K mainGlobals "int" = some none)
    (z2 : PySem.W.nsIn K mainGlobals "bool" = some none)
    (z3 : PySem.W.nsIn K mainGlobals "len" = some none)
    (z4 : PySem.W.nsIn K mainGlobals "tuple" = some none)
    (z5 : PySem.W.nsIn K mainGlobals "list" = some none)
    (z6 : PySem.W.nsIn K mainGlobals "range" = some none)
    (z7 : PySem.W.nsIn K mainGlobals "sorted" = some none)
    (z8 : PySem.W.nsIn K mainGlobals "str" = some none)
    (z9 : PySem.W.nsIn K mainGlobals "all" = some none)
    (z10 : PySem.W.nsIn K mainGlobals "zip" = some none)
    (z11 : PySem.W.nsIn K mainGlobals "ValueError" = some none)
    {ti0 : Tok} (y0 : PySem.W.nsIn K mainGlobals "FIGURES" = some (some (.str "0123456789" ti0)))
    {ti1 : Tok} (y1 : PySem.W.nsIn K mainGlobals "MOST_FIGURES" = some (some (.int 60 ti1)))
    {ti2 : Tok} (y2 : PySem.W.nsIn K mainGlobals "MOST_POWER" = some (some (.int 60 ti2)))
    {ti3 : Tok} (y3 : PySem.W.nsIn K mainGlobals "MOST_TERMS" = some (some (.int 100 ti3)))
    {C : Addr} (qc : PySem.W.nsIn K mainGlobals "NoText" = some (some (.ref C)))
    {C0 : Addr} (q0 : PySem.W.nsIn K mainGlobals "NoDrawing" = some (some (.ref C0)))
    {C1 : Addr} (q1 : PySem.W.nsIn K mainGlobals "NoName" = some (some (.ref C1)))
    {C2 : Addr} (q2 : PySem.W.nsIn K mainGlobals "NoNumber" = some (some (.ref C2)))
    {C3 : Addr} (q3 : PySem.W.nsIn K mainGlobals "NoOrder" = some (some (.ref C3)))
    {C4 : Addr} (q4 : PySem.W.nsIn K mainGlobals "NoPlaces" = some (some (.ref C4)))
    {C5 : Addr} (q5 : PySem.W.nsIn K mainGlobals "NoPoint" = some (some (.ref C5)))
    {C6 : Addr} (q6 : PySem.W.nsIn K mainGlobals "NoRow" = some (some (.ref C6)))
    {C7 : Addr} (q7 : PySem.W.nsIn K mainGlobals "NoSuch" = some (some (.ref C7)))
    {C8 : Addr} (q8 : PySem.W.nsIn K mainGlobals "NoTie" = some (some (.ref C8)))
    {C9 : Addr} (q9 : PySem.W.nsIn K mainGlobals "NotApart" = some (some (.ref C9)))
    {O0 : Addr} (q10 : PySem.W.nsIn K mainGlobals "NotJoined" = some (some (.ref O0)))
    {O1 : Addr} (q11 : PySem.W.nsIn K mainGlobals "NotPlane" = some (some (.ref O1)))
    {O2 : Addr} (q12 : PySem.W.nsIn K mainGlobals "NoWeb" = some (some (.ref O2)))
    {O3 : Addr} (q13 : PySem.W.nsIn K mainGlobals "TooMany" = some (some (.ref O3)))
    {CW : Addr} (qw : PySem.W.nsIn K mainGlobals "WebError" = some (some (.ref CW)))
    (x1 : chk27 K C (cs10 C0 C1 C2 C3 C4 C5 C6 C7 C8 C9) (cs4 O0 O1 O2 O3) CW = true)
    : ∃ fd : FuncData, (∀ (s : Shared) (v : Value), BindsTo s fd ⟨[v], []⟩ [("_law_script", v)]) /\ ∀ base : Heap, K.In base -> base.Ns mainGlobals mg -> FnOk l.prog w K mg base CX0 7 fa fd ["_law_script"] (spLaw K) := by
  have e := hfa.symm.trans (PySem.W.mg_of X G a21)
  cases e
  have S0 : Src K mg "read_poly" sRPoly ["text"] := src_mk X G a0 l0 c0 k0 fun _ _ _ _ _ _ => len1 (fun _ => rfl)
  have S1 : Src K mg "read_term" sRTerm ["word"] := src_mk X G a1 l1 c1 k1 fun _ _ _ _ _ _ => len1 (fun _ => rfl)
  have S2 : Src K mg "read_times" sRTimes ["word"] := src_mk X G a2 l2 c2 k2 fun _ _ _ _ _ _ => len1 (fun _ => rfl)
  have S3 : Src K mg "read_power" sRPower ["word"] := src_mk X G a3 l3 c3 k3 fun _ _ _ _ _ _ => len1 (fun _ => rfl)
  have S4 : Src K mg "read_above_nought" sRAbove ["word"] := src_mk X G a4 l4 c4 k4 fun _ _ _ _ _ _ => len1 (fun _ => rfl)
  have S5 : Src K mg "_law_at" sAt ["_law_script", "_law_k"] := src_mk X G a5 l5 c5 k5 fun _ _ _ _ _ _ => len2 (fun _ _ => rfl)
  have S6 : Src K mg "_law_number" sNumber ["_law_load"] := src_mk X G a6 l6 c6 k6 fun _ _ _ _ _ _ => len1 (fun _ => rfl)
  have S7 : Src K mg "_law_term" sTerm ["_law_cell"] := src_mk X G a7 l7 c7 k7 fun _ _ _ _ _ _ => len1 (fun _ => rfl)
  have S8 : Src K mg "_law_sum" sSum ["_law_terms"] := src_mk X G a8 l8 c8 k8 fun _ _ _ _ _ _ => len1 (fun _ => rfl)
  have S9 : Src K mg "_law_factor" sFactor ["_law_letter", "_law_k"] := src_mk X G a9 l9 c9 k9 fun _ _ _ _ _ _ => len2 (fun _ _ => rfl)
  have S10 : Src K mg "_law_text" sText ["_law_poly"] := src_mk X G a10 l10 c10 k10 fun _ _ _ _ _ _ => len1 (fun _ => rfl)
  have S11 : Src K mg "_law_figures" sFigs ["_law_text_here", "_law_most"] := src_mk X G a11 l11 c11 k11 fun _ _ _ _ _ _ => len2 (fun _ _ => rfl)
  have S12 : Src K mg "_law_power" sLPow ["_law_text_here", "_law_letter"] := src_mk X G a12 l12 c12 k12 fun _ _ _ _ _ _ => len2 (fun _ _ => rfl)
  have S13 : Src K mg "_law_read_term" sLTerm ["_law_text_here"] := src_mk X G a13 l13 c13 k13 fun _ _ _ _ _ _ => len1 (fun _ => rfl)
  have S14 : Src K mg "_law_read" sLRead ["_law_text_here"] := src_mk X G a14 l14 c14 k14 fun _ _ _ _ _ _ => len1 (fun _ => rfl)
  have S15 : Src K mg "_law_odd" sOdd ["_law_cell"] := src_mk X G a15 l15 c15 k15 fun _ _ _ _ _ _ => len1 (fun _ => rfl)
  have S16 : Src K mg "_law_bound" sBound ["_law_cell"] := src_mk X G a16 l16 c16 k16 fun _ _ _ _ _ _ => len1 (fun _ => rfl)
  have S17 : Src K mg "_law_spoilt" sSpoilt ["_law_terms", "_law_cell"] := src_mk X G a17 l17 c17 k17 fun _ _ _ _ _ _ => len2 (fun _ _ => rfl)
  have S18 : Src K mg "_law_only" sOnly ["_law_e"] := src_mk X G a18 l18 c18 k18 fun _ _ _ _ _ _ => len1 (fun _ => rfl)
  have S19 : Src K mg "_law_refused" sRefd ["_law_thing"] := src_mk X G a19 l19 c19 k19 fun _ _ _ _ _ _ => len1 (fun _ => rfl)
  have S20 : Src K mg "_law_right" sRight ["_law_thing"] := src_mk X G a20 l20 c20 k20 fun _ _ _ _ _ _ => len1 (fun _ => rfl)
  have T : TxP mg := ⟨PySem.W.mg_none_of X G z0, PySem.W.mg_none_of X G z1, PySem.W.mg_none_of X G z2, PySem.W.mg_none_of X G z3, PySem.W.mg_none_of X G z4, PySem.W.mg_none_of X G z5, PySem.W.mg_none_of X G z6, PySem.W.mg_none_of X G z7⟩
  have T2 : Tx26 mg := ⟨PySem.W.mg_none_of X G z8, PySem.W.mg_none_of X G z9, PySem.W.mg_none_of X G z10, ⟨_, PySem.W.mg_of X G y0⟩, ⟨_, PySem.W.mg_of X G y1⟩, ⟨_, PySem.W.mg_of X G y2⟩, ⟨_, PySem.W.mg_of X G y3⟩⟩
  obtain ⟨xc, xw, xk, xs, xv, xi, xa, xb⟩ := chk27_of x1
  have XQ : Exc27 K mg C (cs10 C0 C1 C2 C3 C4 C5 C6 C7 C8 C9) (cs4 O0 O1 O2 O3) CW (mroT K CW) := ⟨PySem.W.mg_of X G qc, PySem.W.mg_of X G q0, PySem.W.mg_of X G q1, PySem.W.mg_of X G q2, PySem.W.mg_of X G q3, PySem.W.mg_of X G q4, PySem.W.mg_of X G q5, PySem.W.mg_of X G q6, PySem.W.mg_of X G q7, PySem.W.mg_of X G q8, PySem.W.mg_of X G q9, PySem.W.mg_of X G q10, PySem.W.mg_of X G q11, PySem.W.mg_of X G q12, PySem.W.mg_of X G q13, PySem.W.mg_of X G qw, PySem.W.mg_none_of X G z11, xw, xk, xs, xv, xi, xa, xb⟩
  refine ⟨PySem.W.fnOf "law" "law" (defArgs sLaw) (defBody sLaw) (defScope sLaw) .none kV21 dc21 pm21 an21 cd21 ct21, fun s v => .of_eq rfl, fun base _ _ => ?_⟩
  have D4 : DefQ l.prog w K mg base 1 _ _ _ := d_aboveQ T T2 XQ.s0 xc S4
  have D2 : DefQ l.prog w K mg base 2 _ _ _ := d_timesQ S2 D4
  have D3 : DefQ l.prog w K mg base 2 _ _ _ := d_powQ T2 XQ.s0 xc S3 D4
  have D1 : DefQ l.prog w K mg base 3 _ _ _ := d_termQ T XQ.s0 xc S1 D2 D3
  have D0 : DefQ l.prog w K mg base 4 _ _ _ := d_polyQ T T2 XQ.s0 xc S0 D1
  have D5 : Def l.prog w K mg base 1 _ _ _ := d_at T S5
  have D6 : Def l.prog w K mg base 1 _ _ _ := d_number S6
  have D7 : Def l.prog w K mg base 2 _ _ _ := d_term S7 D6
  have D8 : Def l.prog w K mg base 1 _ _ _ := d_sum T S8
  have D9 : Def l.prog w K mg base 1 _ _ _ := d_factor T2 S9
  have D10 : Def l.prog w K mg base 2 _ _ _ := d_ltext T2 S10 D9
  have D11 : Def l.prog w K mg base 1 _ _ _ := d_figs T S11
  have D12 : Def l.prog w K mg base 2 _ _ _ := d_lpow S12 D11
  have D13 : Def l.prog w K mg base 3 _ _ _ := d_lterm T S13 D11 D12
  have D14 : Def l.prog w K mg base 4 _ _ _ := d_lread T T2 (PySem.W.mg_none_of X G z6) S14 D13
  have D15 : Def l.prog w K mg base 1 _ _ _ := d_odd T S15
  have D16 : Def l.prog w K mg base 2 _ _ _ := d_bound T T2 (PySem.W.mg_none_of X G z6) S16 D9
  have D17 : Def l.prog w K mg base 3 _ _ _ := d_spoilt T S17 D10
  have DON : DefH l.prog w K mg base 1 _ _ _ := d_only T XQ S18
  have DRE : Def l.prog w K mg base 5 _ _ _ := d_refd XQ S19 D0 DON
  have DRI : Def l.prog w K mg base 6 _ _ _ := d_right S20 D14 DRE D0
  exact ok_law (fun_mk (st := sLaw) l21 c21 k21) T D5 D7 D8 D10 D15 D16 D17 DRI
theorem walk {l : PySem.W.OpenLaw} {q : Program} {loose : List Str} {XP : (Str -> Option Value) -> Heap -> Prop} {YP : World -> Heap -> Prop} {d : DefRec} {K : Params -> PySem.W.Frag} (hn : l.most = some 63) (hdf : d.params.defaults = [])
    (hY : ∀ (w : World) (h : Heap), YP w h -> (K w.params).In h)
    (F : ∀ (w : World) (mg : Str -> Option Value) (fa : Addr) (h : Heap), (K w.params).In h -> h.Ns mainGlobals mg -> mg d.name = some (.ref fa) ->
      ∃ fd : FuncData, (∀ (s : Shared) (u : Value), BindsTo s fd ⟨[u], []⟩ [("_law_script", u)]) /\ ∀ base : Heap, (K w.params).In base -> base.Ns mainGlobals mg -> FnOk l.prog w (K w.params) mg base CX0 7 fa fd ["_law_script"] (spLaw (K w.params))) :
    PySem.W.WalkO q loose XP YP l.row.toRowW d [] (fun f vs => PySem.call f vs) :=
  L2.walk_of (n := 63) (k := 7) (x := "_law_script") (CX := fun _ => CX0) (sp := fun w => spLaw (K w.params)) hn (by decide) hdf ⟨rfl, by decide, by decide⟩ hY F (fun _ _ a ns hl _ hS => ⟨a, ns, rfl, hS, hl, fun _ => rfl⟩) fun _ _ _ _ _ z => z
end My
def PySem.W.Fast.tw7923557632765688582 : Unit := ()
def PySem.W.Fast.tw3869636003065025548 : Unit := ()
def PySem.W.Fast.tw15697371728152572158 : Unit := ()
def PySem.W.Fast.tw2057688138401109507 : Unit := ()
def PySem.W.Fast.tw10242219618420073819 : Unit := ()
def PySem.W.Fast.tw8684570059812395896 : Unit := ()
def PySem.W.Fast.tw14036024886325698237 : Unit := ()
def PySem.W.Fast.tw4310226774938170144 : Unit := ()
def PySem.W.Fast.tw14848707502974827469 : Unit := ()
def PySem.W.Fast.tw3520228196874134195 : Unit := ()
def PySem.W.Fast.tw13890719604891528882 : Unit := ()
def PySem.W.Fast.tw11546273989727598856 : Unit := ()
def PySem.W.Fast.tw5478814461989595213 : Unit := ()
def PySem.W.Fast.tw2393965535097951164 : Unit := ()
def PySem.W.Fast.tw15623240161192694857 : Unit := ()
def PySem.W.Fast.tw11550799244354652581 : Unit := ()
def PySem.W.Fast.tw15033853219469347241 : Unit := ()
def PySem.W.Fast.tw11981929376882493780 : Unit := ()
def PySem.W.Fast.tw13203851040028498449 : Unit := ()
def PySem.W.Fast.tw9580757518599768744 : Unit := ()
open PySem PySem.W PyProof.Rows
set_option maxRecDepth 100000 in
set_option maxHeartbeats 0 in
theorem PySem.Challenge.cw_manycounts_k27_no_texts_of_polynomials_holds : PySem.Challenge.rw_manycounts_k27_no_texts_of_polynomials.Holds := by
  w_on; o_law; k_head; (case hw => w_witness2)
  k_fill
  refine My.walk (l := PySem.Challenge.rw_manycounts_k27_no_texts_of_polynomials) rfl rfl (fun w h Y => PySem.W.kIn_of Y) ?F
  case F =>
    intro w mg fa h KX G hmg
    refine' My.all_mk KX G hmg ?a0 ?l0 ?c0 ?k0 ?a1 ?l1 ?c1 ?k1 ?a2 ?l2 ?c2 ?k2 ?a3 ?l3 ?c3 ?k3 ?a4 ?l4 ?c4 ?k4 ?a5 ?l5 ?c5 ?k5 ?a6 ?l6 ?c6 ?k6 ?a7 ?l7 ?c7 ?k7 ?a8 ?l8 ?c8 ?k8 ?a9 ?l9 ?c9 ?k9 ?a10 ?l10 ?c10 ?k10 ?a11 ?l11 ?c11 ?k11 ?a12 ?l12 ?c12 ?k12 ?a13 ?l13 ?c13 ?k13 ?a14 ?l14 ?c14 ?k14 ?a15 ?l15 ?c15 ?k15 ?a16 ?l16 ?c16 ?k16 ?a17 ?l17 ?c17 ?k17 ?a18 ?l18 ?c18 ?k18 ?a19 ?l19 ?c19 ?k19 ?a20 ?l20 ?c20 ?k20 ?a21 ?l21 ?c21 ?k21 ?z0 ?z1 ?z2 ?z3 ?z4 ?z5 ?z6 ?z7 ?z8 ?z9 ?z10 ?z11 ?y0 ?y1 ?y2 ?y3 ?qc ?q0 ?q1 ?q2 ?q3 ?q4 ?q5 ?q6 ?q7 ?q8 ?q9 ?q10 ?q11 ?q12 ?q13 ?qw ?x1
    (case a0 => k_is); (case l0 => k_is); (case c0 => k_is); (case k0 => k_is)
    (case a1 => k_is); (case l1 => k_is); (case c1 => k_is); (case k1 => k_is)
    (case a2 => k_is); (case l2 => k_is); (case c2 => k_is); (case k2 => k_is)
    (case a3 => k_is); (case l3 => k_is); (case c3 => k_is); (case k3 => k_is)
    (case a4 => k_is); (case l4 => k_is); (case c4 => k_is); (case k4 => k_is)
    (case a5 => k_is); (case l5 => k_is); (case c5 => k_is); (case k5 => k_is)
    (case a6 => k_is); (case l6 => k_is); (case c6 => k_is); (case k6 => k_is)
    (case a7 => k_is); (case l7 => k_is); (case c7 => k_is); (case k7 => k_is)
    (case a8 => k_is); (case l8 => k_is); (case c8 => k_is); (case k8 => k_is)
    (case a9 => k_is); (case l9 => k_is); (case c9 => k_is); (case k9 => k_is)
    (case a10 => k_is); (case l10 => k_is); (case c10 => k_is); (case k10 => k_is)
    (case a11 => k_is); (case l11 => k_is); (case c11 => k_is); (case k11 => k_is)
    (case a12 => k_is); (case l12 => k_is); (case c12 => k_is); (case k12 => k_is)
    (case a13 => k_is); (case l13 => k_is); (case c13 => k_is); (case k13 => k_is)
    (case a14 => k_is); (case l14 => k_is); (case c14 => k_is); (case k14 => k_is)
    (case a15 => k_is); (case l15 => k_is); (case c15 => k_is); (case k15 => k_is)
    (case a16 => k_is); (case l16 => k_is); (case c16 => k_is); (case k16 => k_is)
    (case a17 => k_is); (case l17 => k_is); (case c17 => k_is); (case k17 => k_is)
    (case a18 => k_is); (case l18 => k_is); (case c18 => k_is); (case k18 => k_is)
    (case a19 => k_is); (case l19 => k_is); (case c19 => k_is); (case k19 => k_is)
    (case a20 => k_is); (case l20 => k_is); (case c20 => k_is); (case k20 => k_is)
    (case a21 => k_is); (case l21 => k_is); (case c21 => k_is); (case k21 => k_is)
    (case z0 => k_is); (case z1 => k_is); (case z2 => k_is); (case z3 => k_is)
    (case z4 => k_is); (case z5 => k_is); (case z6 => k_is); (case z7 => k_is)
    (case z8 => k_is); (case z9 => k_is); (case z10 => k_is); (case z11 => k_is)
    (case y0 => k_is); (case y1 => k_is); (case y2 => k_is); (case y3 => k_is)
    (case qc => k_is)
    (case q0 => k_is)
    (case q1 => k_is)
    (case q2 => k_is)
    (case q3 => k_is)
    (case q4 => k_is)
    (case q5 => k_is)
    (case q6 => k_is)
    (case q7 => k_is)
    (case q8 => k_is)
    (case q9 => k_is)
    (case q10 => k_is)
    (case q11 => k_is)
    (case q12 => k_is)
    (case q13 => k_is)
    (case qw => k_is)
    (case x1 => kernel_rfl)
