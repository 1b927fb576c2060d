import PyProof.Rows.All
import Wide.All
import OpenK.AllK
import Wide.FinOn
import Lean
import PyProof.EqAt
import PyProof.EqKinds
import PyProof.TupleCall
import KE.KIsAll
import PyProof.DictItems
import KE.KPairComp
import KE.KSortTup
import KE.IntBitsLaws
import KE.KRevIter
import PySem.Challenge.RW_manycounts_k34_steps_made_by_hand
set_option Elab.async false
set_option linter.all false
set_option maxRecDepth 100000
set_option maxHeartbeats 4000000
namespace L2
open PySem PySem.Spec PyProof.Rows
abbrev Key := Sum Int Str
def keyIs : Key -> Value -> Bool
  | .inl k, v => Value.isInt k v
  | .inr x, v => Value.isStrOf x v
def keyH (w : World) : Key -> Int
  | .inl k => hashInt k
  | .inr x => hashStr w x
theorem keyIs_shape : ∀ {k : Key} {v : Value}, keyIs k v = true -> (∃ i t, k = Sum.inl i /\ v = Value.int i t) \/ (∃ x t, k = Sum.inr x /\ v = Value.str x t)
  | .inl i, v, h => by
    obtain ⟨t, e⟩ := Value.isInt_shape (k := i) (v := v) h
    exact .inl ⟨i, t, rfl, e⟩
  | .inr x, v, h => by
    obtain ⟨t, e⟩ := Value.isStrOf_shape (x := x) (v := v) h
    exact .inr ⟨x, t, rfl, e⟩
theorem keyIs_int (i : Int) (t : Tok) : keyIs (.inl i) (.int i t) = true := by simp [keyIs, Value.isInt]
theorem keyIs_str (x : Str) (t : Tok) : keyIs (.inr x) (.str x t) = true := by simp [keyIs, Value.isStrOf]
theorem key_ll (a b : Int) : decide ((Sum.inl a : Key) = Sum.inl b) = (a == b) := by
  by_cases e : a = b
  · subst e; simp
  · have h : ¬ (Sum.inl a : Key) = Sum.inl b := fun q => e (Sum.inl.inj q)
    rw [decide_eq_false h]
    exact (beq_eq_false_iff_ne.mpr e).symm
theorem key_rr (a b : Str) : decide ((Sum.inr a : Key) = Sum.inr b) = decide (a = b) := by
  by_cases e : a = b
  · subst e; simp
  · have h : ¬ (Sum.inr a : Key) = Sum.inr b := fun q => e (Sum.inr.inj q)
    rw [decide_eq_false h, decide_eq_false e]
theorem key_lr (a : Int) (b : Str) : decide ((Sum.inl a : Key) = Sum.inr b) = false := decide_eq_false (fun q => nomatch q)
theorem key_rl (a : Str) (b : Int) : decide ((Sum.inr a : Key) = Sum.inl b) = false := decide_eq_false (fun q => nomatch q)
def mixKind (prog : Program) (w : World) : PySem.KeyKind prog w Key where
  is := keyIs
  hash := keyH w
  inj := fun v a b ha hb => by
    rcases keyIs_shape ha with ⟨i, t, rfl, rfl⟩ | ⟨x, t, rfl, rfl⟩
    · rcases keyIs_shape hb with ⟨j, u, rfl, e⟩ | ⟨y, u, rfl, e⟩
      · injection e with e1 _; rw [e1]
      · exact nomatch e
    · rcases keyIs_shape hb with ⟨j, u, rfl, e⟩ | ⟨y, u, rfl, e⟩
      · exact nomatch e
      · injection e with e1 _; rw [e1]
  byValue := fun k v h => by
    rcases keyIs_shape h with ⟨i, t, rfl, rfl⟩ | ⟨x, t, rfl, rfl⟩ <;> rfl
  pyHash := fun hv h => by
    rcases keyIs_shape hv with ⟨i, t, rfl, rfl⟩ | ⟨x, t, rfl, rfl⟩
    · exact wpAny_pyHash_int h
    · exact wpAny_pyHash_str h
  eqBool := fun hu hv h => by
    rcases keyIs_shape hu with ⟨i, t, rfl, rfl⟩ | ⟨x, t, rfl, rfl⟩
    · rcases keyIs_shape hv with ⟨j, u, rfl, rfl⟩ | ⟨y, u, rfl, rfl⟩
      · rw [key_ll] at h; exact wpAny_eqBool_int h
      · rw [key_lr] at h; exact SeqAt.EqAt.int_str i t y u _ _ _ _ h
    · rcases keyIs_shape hv with ⟨j, u, rfl, rfl⟩ | ⟨y, u, rfl, rfl⟩
      · rw [key_rl] at h; exact SeqAt.EqAt.str_int x t j u _ _ _ _ h
      · rw [key_rr] at h; exact wpAny_eqBool_str h
  «strs» := fun k x t v h => by
    rcases keyIs_shape h with ⟨i, u, rfl, e⟩ | ⟨y, u, rfl, e⟩
    · exact nomatch e
    · injection e with e1 _
      subst e1
      cases v <;> rfl
theorem mixKind_int (prog : Program) (w : World) (i : Int) (t : Tok) : (mixKind prog w).is (.inl i) (.int i t) = true := keyIs_int i t
theorem mixKind_str (prog : Program) (w : World) (x : Str) (t : Tok) : (mixKind prog w).is (.inr x) (.str x t) = true := keyIs_str x t
inductive V where
  | non | bl (b : Bool) | int (i : Int) | str (x : Str) | byt (b : Array UInt8) | flt (b : UInt64) | ref (a : Addr) | ty (n : String)
  deriving DecidableEq
def RelV : V -> Value -> Prop
  | .non, u => u = Value.none
  | .bl b, u => u = Value.bool b
  | .int i, u => ∃ t, u = Value.int i t
  | .str x, u => ∃ t, u = Value.str x t
  | .byt b, u => ∃ t, u = Value.bytes b t
  | .flt b, u => ∃ t, u = Value.float b t
  | .ref a, u => u = Value.ref a
  | .ty n, u => u = Value.type n
abbrev Vals : List V -> List Value -> Prop := Paired RelV
theorem Vals.length {xs : List V} {us : List Value} (r : Vals xs us) : xs.length = us.length := Paired.length r
theorem Vals.get : ∀ {xs : List V} {us : List Value} {i : Nat} {x : V}, Vals xs us -> xs[i]? = some x -> ∃ u, us[i]? = some u /\ RelV x u
  | _, _, _, _, .nil, e => by simp at e
  | _, _, 0, _, .cons r _, e => by simp at e; subst e; exact ⟨_, rfl, r⟩
  | _, _, i + 1, x, .cons _ t, e => by
    obtain ⟨u, h1, h2⟩ := Vals.get (i := i) (x := x) t (by simpa using e)
    exact ⟨u, by simpa using h1, h2⟩
theorem Vals.set {x : V} {u : Value} (r : RelV x u) : ∀ {xs : List V} {us : List Value} (i : Nat), Vals xs us -> Vals (xs.set i x) (us.set i u)
  | _, _, _, .nil => .nil
  | _, _, 0, .cons _ t => .cons r t
  | _, _, i + 1, .cons q t => .cons q (Vals.set r i t)
theorem Vals.append : ∀ {xs ys : List V} {us ws : List Value}, Vals xs us -> Vals ys ws -> Vals (xs ++ ys) (us ++ ws)
  | _, _, _, _, .nil, s => s
  | _, _, _, _, .cons r t, s => .cons r (Vals.append t s)
theorem Vals.take : ∀ {xs : List V} {us : List Value} (n : Nat), Vals xs us -> Vals (xs.take n) (us.take n)
  | _, _, 0, _ => .nil
  | _, _, _ + 1, .nil => .nil
  | _, _, n + 1, .cons r t => .cons r (Vals.take n t)
theorem Vals.drop : ∀ {xs : List V} {us : List Value} (n : Nat), Vals xs us -> Vals (xs.drop n) (us.drop n)
  | _, _, 0, r => r
  | _, _, _ + 1, .nil => .nil
  | _, _, n + 1, .cons _ t => Vals.drop n t
def RelO : Option V -> Option Value -> Prop
  | some v, some u => RelV v u
  | none, none => True
  | _, _ => False
def KV {κ : Type} : List (κ × V) -> List (κ × Value) -> Prop := Paired fun (p : κ × V) (q : κ × Value) => p.1 = q.1 /\ RelV p.2 q.2
def kV : Key -> V
  | .inl i => .int i
  | .inr x => .str x
inductive HO where
    | lst (xs : List V)
    | tup (xs : List V)
    | dK (kvs : List (Key × V)) | dT (kvs : List (List Key × V))
    | set (S : Int -> Bool) (n : Nat)
    | ins (C dx : Addr) (fs : List (Str × V))
    | own (x : Addr)
    | xd (fs : List (Str × V))
    | met (f x : Addr)
    | rng (lo hi : Int)
    | frz (o : Obj) (u : HO)
    | tbl (ps : Array Value)
    | ext (φ : Heap -> Prop)
abbrev Hp := Addr -> Option HO
def upd (H : Hp) (a : Addr) (o : HO) : Hp := fun b => if b = a then some o else H b
theorem upd_same {H : Hp} {a : Addr} {o : HO} : upd H a o a = some o := by unfold upd; rw [if_pos rfl]
theorem upd_ne {H : Hp} {a b : Addr} {o : HO} (h : b ≠ a) : upd H a o b = H b := by unfold upd; rw [if_neg h]
theorem upd_upd {H : Hp} {a : Addr} {o u : HO} : upd (upd H a o) a u = upd H a u := by
  funext b; unfold upd; split <;> rfl
theorem ne_of {H : Hp} {a b : Addr} {o u : HO} (h : H a = some o) (h' : H b = some u) (d : o ≠ u) : a ≠ b := by
  intro e; subst e; rw [h] at h'; exact d (Option.some.inj h')
theorem ne_of_none {H : Hp} {a b : Addr} {o : HO} (h : H a = some o) (h' : H b = none) : a ≠ b := by
  intro e; subst e; rw [h] at h'; cases h'
section
variable (P : Program) (w : World)
def ObjOk (H : Hp) (h : Heap) (a : Addr) : HO -> Prop
  | .lst xs => xs.length <= sizeLine /\ ∃ (its : List Value) (n : Nat), Vals xs its /\ h.get? a = some { cls := .type "list", data := .seq its.toArray n }
  | .tup xs => xs.length <= sizeLine /\ ∃ its : List Value, Vals xs its /\ IsTup h a its.toArray
  | .dK kvs => kvs.length <= sizeLine /\ (a == sysModules) = false /\ ∃ vs, KV kvs vs /\ h.DictOf (mixKind P w) a vs
  | .dT kvs => kvs.length <= sizeLine /\ (a == sysModules) = false /\ ∃ xs : List (List Key × Addr × Value),
      Paired (fun (p : List Key × V) (q : List Key × Addr × Value) => p.1 = q.1 /\ H q.2.1 = some (.tup (p.1.map kV)) /\ RelV p.2 q.2.2) kvs xs /\
      ∃ o es ep, h.get? a = some o /\ o.ExactDict /\ o.data = .dict es ep /\ es.toList = xs.map (entryOfKey (tupleKind (mixKind P w))) /\ (xs.map (·.1)).Nodup
  | .set S n => h.SetOf (intKind P w) a S n
  | .ins C dx fs => H dx = some (.own a) /\ fs.length <= 1000 /\ dx ≠ a /\ h.get? a = some (PySem.W.instObj C dx) /\
      ∃ mA, h.Ns1 dx mA /\ (∀ f, RelO (fs.lookup f) (mA f)) /\ PySem.Within mA (fs.map (·.1))
  | .own _ => ∃ o, h.get? a = some o
  | .xd fs => ∃ mA, h.Ns1 a mA /\ ∀ f, RelO (fs.lookup f) (mA f)
  | .rng lo hi => ∃ t u v, h.get? a = some { cls := .type "range", data := .fields #[.int lo t, .int hi u, .int 1 v] }
  | .frz o u => h.get? a = some o /\ ObjOk H h a u
  | .tbl ps => h.get? a = some { cls := .none, data := .fields ps }
  | .met f x => h.get? a = some (PySem.W.methodObj (.ref f) (.ref x))
  | .ext φ => φ h /\ (∃ o, h.get? a = some o) /\ ∀ h1 h2 : Heap, φ h1 -> (∀ o, h1.get? a = some o -> h2.get? a = some o) -> φ h2
def HOk (H : Hp) (h : Heap) : Prop := ∀ a o, H a = some o -> ObjOk P w H h a o
end
section
variable {P : Program} {w : World} {H H' : Hp} {h h' : Heap} {a : Addr} {o : HO}
theorem ObjOk.lt (x : ObjOk P w H h a o) : a < h.objs.size := by
  cases o with
  | lst xs => obtain ⟨_, _, _, _, e⟩ := x; exact Heap.lt_size e
  | tup xs => obtain ⟨_, _, _, p⟩ := x; exact p.lt
  | dK kvs => obtain ⟨_, _, _, _, o, _, _, e, _⟩ := x; exact Heap.lt_size e
  | dT kvs => obtain ⟨_, _, _, _, o, _, _, e, _⟩ := x; exact Heap.lt_size e
  | set S n => obtain ⟨o, _, _, _, e, _⟩ := x; exact Heap.lt_size e
  | ins C dx fs => obtain ⟨_, _, _, e, _⟩ := x; exact Heap.lt_size e
  | own y => obtain ⟨_, e⟩ := x; exact Heap.lt_size e
  | xd fs => obtain ⟨_, ⟨_, _, _, e, _⟩, _⟩ := x; exact Heap.lt_size e
  | rng lo hi => obtain ⟨_, _, _, e⟩ := x; exact Heap.lt_size e
  | frz ob u => obtain ⟨e, _⟩ := x; exact Heap.lt_size e
  | tbl ps => exact Heap.lt_size (show h.get? a = some _ from x)
  | met f y => exact Heap.lt_size (show h.get? a = some _ from x)
  | ext φ => obtain ⟨_, ⟨_, e⟩, _⟩ := x; exact Heap.lt_size e
theorem Paired.mapP {α β : Type} {F G : α -> β -> Prop} : ∀ {l₁ : List α} {l₂ : List β}, Paired F l₁ l₂ -> (∀ a b, F a b -> G a b) -> Paired G l₁ l₂
  | _, _, .nil, _ => .nil
  | _, _, .cons r t, f => .cons (f _ _ r) (Paired.mapP t f)
theorem ObjOk.stay (x : ObjOk P w H h a o) (k : ∀ b u, (b = a \/ H b = some (.own a)) -> h.get? b = some u -> h'.get? b = some u)
    (ho : ∀ b, H b = some (.own a) -> H' b = some (.own a)) (ht : ∀ b xs, H b = some (.tup xs) -> H' b = some (.tup xs)) : ObjOk P w H' h' a o := by
  induction o with
  | lst xs => obtain ⟨z, its, n, r, e⟩ := x; exact ⟨z, its, n, r, k _ _ (.inl rfl) e⟩
  | tup xs => obtain ⟨z, its, r, ob, e, c⟩ := x; exact ⟨z, its, r, ob, k _ _ (.inl rfl) e, c⟩
  | dK kvs => obtain ⟨z, y, vs, r, ob, es, ep, e, c⟩ := x; exact ⟨z, y, vs, r, ob, es, ep, k _ _ (.inl rfl) e, c⟩
  | dT kvs =>
    obtain ⟨z, y, xs, r, ob, es, ep, e, c⟩ := x
    exact ⟨z, y, xs, Paired.mapP r fun p q z => ⟨z.1, ht _ _ z.2.1, z.2.2⟩, ob, es, ep, k _ _ (.inl rfl) e, c⟩
  | set S n => obtain ⟨ob, es, ep, t, e, c⟩ := x; exact ⟨ob, es, ep, t, k _ _ (.inl rfl) e, c⟩
  | ins C dx fs =>
    obtain ⟨d, z, ne, e, mA, ⟨od, es, ep, e2, c⟩, r⟩ := x
    exact ⟨ho _ d, z, ne, k _ _ (.inl rfl) e, mA, ⟨od, es, ep, k _ _ (.inr d) e2, c⟩, r⟩
  | own y => obtain ⟨ob, e⟩ := x; exact ⟨ob, k _ _ (.inl rfl) e⟩
  | xd fs => obtain ⟨mA, ⟨od, es, ep, e, c⟩, r⟩ := x; exact ⟨mA, ⟨od, es, ep, k _ _ (.inl rfl) e, c⟩, r⟩
  | rng lo hi => obtain ⟨t, u, v, e⟩ := x; exact ⟨t, u, v, k _ _ (.inl rfl) e⟩
  | frz ob u ih => obtain ⟨e, q⟩ := x; exact ⟨k _ _ (.inl rfl) e, ih q⟩
  | tbl ps =>
    have e : h.get? a = some { cls := .none, data := .fields ps } := x
    show h'.get? a = some { cls := .none, data := .fields ps }
    exact k a _ (.inl rfl) e
  | met f y =>
    have e : h.get? a = some (PySem.W.methodObj (.ref f) (.ref y)) := x
    show h'.get? a = some (PySem.W.methodObj (.ref f) (.ref y))
    exact k a _ (.inl rfl) e
  | ext φ => obtain ⟨p, ⟨o, e⟩, st⟩ := x; exact ⟨st _ _ p fun o q => k _ _ (.inl rfl) q, ⟨o, k _ _ (.inl rfl) e⟩, st⟩
theorem HOk.lt (x : HOk P w H h) (e : H a = some o) : a < h.objs.size := (x a o e).lt
theorem HOk.fresh (x : HOk P w H h) (e : h.objs.size <= a) : H a = none := by
  cases q : H a with
  | none => rfl
  | some u => exact absurd (Nat.lt_of_lt_of_le (x.lt q) e) (Nat.lt_irrefl _)
theorem HOk.kept (x : HOk P w H h) (k : ∀ b u, h.get? b = some u -> h'.get? b = some u) : HOk P w H h' := fun a o e =>
  (x a o e).stay (fun b u _ q => k b u q) (fun _ q => q) fun _ _ q => q
theorem HOk.laid (x : HOk P w H h) (k : ∀ b u, h.get? b = some u -> h'.get? b = some u) (hp : h.objs.size <= a) (new : ObjOk P w (upd H a o) h' a o) : HOk P w (upd H a o) h' := fun b u e => by
  have hn := x.fresh hp
  by_cases hb : b = a
  · subst hb; rw [upd_same] at e; cases e; exact new
  · rw [upd_ne hb] at e
    exact (x b u e).stay (fun c v _ q => k c v q) (fun c q => by rw [upd_ne (ne_of_none q hn)]; exact q) fun c xs q => by rw [upd_ne (ne_of_none q hn)]; exact q
end
def Rd (H : Hp) (a : Addr) (u : HO) : Prop := H a = some u \/ ∃ o, H a = some (.frz o u)
theorem Rd.ok {P : Program} {w : World} {H : Hp} {h : Heap} {a : Addr} {u : HO} (r : Rd H a u) (x : HOk P w H h) : ObjOk P w H h a u := by
  rcases r with r | ⟨o, r⟩
  · exact x a u r
  · obtain ⟨_, q⟩ := x a _ r
    exact q
def Mut : Option HO -> Prop
  | some (.lst _) => True
  | some (.dK _) => True
  | some (.dT _) => True
  | some (.set _ _) => True
  | some (.ins _ _ _) => True
  | some (.ext _) => True
  | _ => False
section
variable {P : Program} {w : World} {H : Hp} {h h' : Heap} {x e : Addr} {o' : HO}
theorem HOk.write (ok : HOk P w H h) (mu : Mut (H x)) (he : e = x \/ H e = some (.own x)) (k : ∀ b u, b ≠ e -> h.get? b = some u -> h'.get? b = some u) (heo : ∃ u, h'.get? e = some u)
    (new : ObjOk P w (upd H x o') h' x o') : HOk P w (upd H x o') h' := fun b u q => by
  have nown : ∀ c y, H c = some (.own y) -> c ≠ x := fun c y r z => by subst z; rw [r] at mu; exact mu
  have ntup : ∀ c xs, H c = some (.tup xs) -> c ≠ x := fun c xs r z => by subst z; rw [r] at mu; exact mu
  by_cases hb : b = x
  · subst hb; rw [upd_same] at q; cases q; exact new
  · rw [upd_ne hb] at q
    by_cases hbe : b = e
    · have q' : H b = some (.own x) := by
        rcases he with z | z
        · exact absurd (hbe.trans z) hb
        · rw [hbe]; exact z
      rw [q] at q'; cases q'
      obtain ⟨v, hv⟩ := heo
      exact ⟨v, by rw [hbe]; exact hv⟩
    · refine (ok b u q).stay (fun c v hc r => k c v ?_ r) (fun c r => by rw [upd_ne (nown c b r)]; exact r) fun c xs r => by rw [upd_ne (ntup c xs r)]; exact r
      rcases hc with rfl | hc
      · exact hbe
      · rintro rfl
        rcases he with z | z
        · exact nown c b hc z
        · rw [hc] at z; cases z; exact hb rfl
end
structure Un (fs ex : List Addr) (H H' : Hp) (h h' : Heap) : Prop where
  keep : ∀ b o, h.get? b = some o -> H b = none -> b ∉ fs -> b ∉ ex -> h'.get? b = some o
  slot : ∀ b o, h.get? b = some o -> H b = none -> b ∈ fs -> b ∉ ex -> ∃ sl, h'.get? b = some { o with slots := sl }
  free : ∀ b o, h.get? b = some o -> H b = none -> b ∉ ex -> H' b = none
  there : ∀ b o, h.get? b = some o -> b ∉ ex -> ∃ o', h'.get? b = some o'
  tups : ∀ b xs, H b = some (.tup xs) -> H' b = some (.tup xs)
  frzs : ∀ b o u, H b = some (.frz o u) -> H' b = some (.frz o u)
  tbls : ∀ b ps, H b = some (.tbl ps) -> ∃ more, H' b = some (.tbl (ps ++ more))
section
variable {fs fs' ex ex' : List Addr} {H H1 H2 : Hp} {h h1 h2 h' : Heap} {a x e : Addr} {o : HO}
theorem Un.any (u : Un fs ex H H1 h h1) {b : Addr} {ob : Obj} (q : h.get? b = some ob) (n : H b = none) (hx : b ∉ ex) : ∃ sl, h1.get? b = some { ob with slots := sl } := by
  by_cases hb : b ∈ fs
  · exact u.slot b ob q n hb hx
  · exact ⟨ob.slots, u.keep b ob q n hb hx⟩
theorem Un.kept (k : ∀ b u, h.get? b = some u -> h'.get? b = some u) : Un fs ex H H h h' :=
  ⟨fun b ob q _ _ _ => k b ob q, fun b ob q _ _ _ => ⟨ob.slots, k b ob q⟩, fun _ _ _ n _ => n, fun b ob q _ => ⟨ob, k b ob q⟩, fun _ _ q => q, fun _ _ _ q => q, fun _ ps q => ⟨#[], by rw [q]; simp⟩⟩
theorem Un.refl : Un fs ex H H h h := Un.kept fun _ _ q => q
theorem Un.laid (k : ∀ b u, h.get? b = some u -> h'.get? b = some u) (hp : h.objs.size <= a) (hn : H a = none) : Un fs ex H (upd H a o) h h' where
  keep := fun b u q _ _ _ => k b u q
  slot := fun b u q _ _ _ => ⟨u.slots, k b u q⟩
  free := fun b u q n _ => by rw [upd_ne (Nat.ne_of_lt (Nat.lt_of_lt_of_le (Heap.lt_size q) hp))]; exact n
  there := fun b u q _ => ⟨u, k b u q⟩
  tups := fun b xs q => by rw [upd_ne (ne_of_none q hn)]; exact q
  frzs := fun b u xs q => by rw [upd_ne (ne_of_none q hn)]; exact q
  tbls := fun b ps q => ⟨#[], by rw [upd_ne (ne_of_none q hn), q]; simp⟩
theorem Un.write (mu : Mut (H x)) (he : e = x \/ H e = some (.own x)) (k : ∀ b u, b ≠ e -> h.get? b = some u -> h'.get? b = some u) (heo : ∃ u, h'.get? e = some u) : Un fs ex H (upd H x o) h h' := by
  have hx : ∀ b, H b = none -> b ≠ x := fun b n z => by subst z; rw [n] at mu; exact mu
  have hb : ∀ b, H b = none -> b ≠ e := fun b n z => by
    subst z
    rcases he with r | r
    · exact hx b n r
    · rw [n] at r; cases r
  have hm : ∀ b u, H b = some u -> ¬ Mut (some u) -> b ≠ x := fun b u q nm z => by subst z; rw [q] at mu; exact nm mu
  refine ⟨fun b u q n _ _ => k b u (hb b n) q, fun b u q n _ _ => ⟨u.slots, k b u (hb b n) q⟩, fun b u q n _ => by rw [upd_ne (hx b n)]; exact n, fun b u q _ => ?_,
    fun b xs q => by rw [upd_ne (hm b _ q fun z => z)]; exact q, fun b u xs q => by rw [upd_ne (hm b _ q fun z => z)]; exact q, fun b ps q => ⟨#[], by rw [upd_ne (hm b _ q fun z => z), q]; simp⟩⟩
  by_cases hbe : b = e
  · subst hbe; exact heo
  · exact ⟨u, k b u hbe q⟩
end
def trk (h : Heap) (H : Hp) : List Addr := (List.range h.objs.size).filter fun a => (H a).isSome
def hidT (h : Heap) (H : Hp) : Heap := PySem.W.hideAll h (trk h H)
theorem hidT_size (h : Heap) (H : Hp) : (hidT h H).objs.size = h.objs.size := PySem.W.hideAll_size _ _
theorem hidT_get {h : Heap} {H : Hp} {b : Addr} {o : Obj} (e : h.get? b = some o) (n : H b = none) : (hidT h H).get? b = some o :=
  PySem.W.hideAll_get _ e fun hm => by
    have q : (H b).isSome = true := (List.mem_filter.mp hm).2
    rw [n] at q; simp at q
theorem of_hidT {h : Heap} {H : Hp} {b : Addr} {o : Obj} (e : (hidT h H).get? b = some o) : h.get? b = some o /\ H b = none := by
  have e' : h.get? b = some o := PySem.W.of_hideAll (trk h H) e
  refine ⟨e', ?_⟩
  cases q : H b with
  | none => rfl
  | some x =>
    have hm : b ∈ trk h H := List.mem_filter.mpr ⟨List.mem_range.mpr (Heap.lt_size e'), by simp [q]⟩
    have z : (hidT h H).get? b = none := PySem.W.hideAll_none (trk h H) hm
    rw [z] at e; cases e
def allNews (g h : Heap) (L : Addr) : List (Addr × Obj) := (List.range h.objs.size).filterMap fun a => if a = L \/ (g.get? a).isSome = true then none else (h.get? a).map fun o => (a, o)
def rest (g h : Heap) (L d : Addr) : List (Addr × Obj) := (allNews g h L).filter fun p => decide (p.1 ≠ d)
structure Mod (K : PySem.W.Frag) (mg : Str -> Option Value) (base : Heap) : Prop where
  kin : K.In base
  glob : base.Ns mainGlobals mg
  blt : ∃ mb, base.Ns builtinsNs mb /\ ∀ x : Str, x ≠ "__name__" -> mb x = bootBuiltins x
  nolimit : base.NoLimit
structure Cx where
  prog : Program
  w : World
  K : PySem.W.Frag
  mg : Str -> Option Value
  base : Heap
  A : Around
  N : List Str
  s₀ : Shared
  H₀ : Hp
  env : Env
  outer : List Env
  stack : List Env
  ex : List Addr
  fn : Str -> Bool
  calm : Bool
  pn : List (Addr × Obj)
  xe : Value -> Shared -> Prop
def frs (l : List Env) : List Addr := l.filterMap (·.frame)
abbrev Cx.fs (X : Cx) : List Addr := frs X.outer
def Vis (sc : Scope) (x : Str) : Prop := sc.names.lookup x = some .local \/ sc.names.lookup x = some .cell \/ sc.names.lookup x = some .free
def Loc (sc : Scope) (x : Str) : Prop := sc.names.lookup x = some .local \/ sc.names.lookup x = some .cell
def Look (env : Env) (h : Heap) (m : Str -> Option Value) (x : Str) (u : Value) : Prop :=
  (env.kindOf x = some .local /\ m x = some u) \/ ((env.kindOf x = some .cell \/ env.kindOf x = some .free) /\ ∃ c, env.cells.lookup x = some c /\ h.IsCell c (some u))
structure Cx.Ok (X : Cx) : Prop where
  mod : Mod X.K X.mg X.base
  kind : X.env.scope.kind = .function
  glob : X.env.globals = mainGlobals
  blt : X.env.builtins = builtinsNs
  above : X.s₀.heap.objs.size <= X.env.locals
  inj : ∀ x y c, X.env.cells.lookup x = some c -> X.env.cells.lookup y = some c -> x = y
  has : ∀ x, (X.env.kindOf x = some .cell \/ X.env.kindOf x = some .free) -> ∃ c, X.env.cells.lookup x = some c
  cab : ∀ x c, X.fn x = true -> X.env.cells.lookup x = some c -> X.s₀.heap.objs.size <= c
  hd : X.calm = true -> X.A.handled = none
  frames : X.A.frames = some X.stack
  stk : X.stack = X.outer \/ (X.stack = X.env :: X.outer /\ X.env.frame = some X.env.locals)
  exf : ∀ b ∈ X.ex, b ≠ X.env.locals /\ ∀ x c, X.env.cells.lookup x = some c -> c ≠ b
  bs : ∀ b o, X.base.get? b = some o -> X.s₀.heap.get? b = some o /\ X.H₀ b = none
  bsz : X.base.objs.size <= X.s₀.heap.objs.size
  noex : ∀ b o, X.base.get? b = some o -> b ∉ X.ex
  exfs : ∀ b ∈ X.ex, b ∉ X.fs
  funs : X.s₀.heap.FunFrames X.base X.outer
  frf : ∀ b ∈ X.fs, X.H₀ b = none
structure Inv (X : Cx) (pins : List (Addr × Obj)) (σ : List (Option V)) (H : Hp) (s : Shared) : Prop where
  ok : X.Ok
  os : s.os = X.s₀.os
  bare : AllBare s.gens
  base : Un X.fs X.ex X.H₀ H X.s₀.heap s.heap
  loc : ∃ m, s.heap.Ns X.env.locals m /\ ∀ (i : Nat) (x : Str) (v : V), X.N[i]? = some x -> σ[i]? = some (some v) -> Vis X.env.scope x -> ∃ u, RelV v u /\ Look X.env s.heap m x u
  cell : ∀ x c, X.env.cells.lookup x = some c -> ∃ v, s.heap.IsCell c v
  free : H X.env.locals = none
  freeC : ∀ x c, X.env.cells.lookup x = some c -> H c = none
  pin : ∀ p ∈ X.pn ++ pins, s.heap.get? p.1 = some p.2 /\ H p.1 = none /\ p.1 ≠ X.env.locals /\ p.1 ∉ X.fs /\ ∀ v, p.2.data ≠ .cell v
  hok : HOk X.prog X.w H s.heap
  len : σ.length = X.N.length
section
variable {X : Cx} {pins : List (Addr × Obj)} {σ : List (Option V)} {H H' : Hp} {s : Shared} {h' : Heap}
theorem Cx.Ok.nofr (ok : X.Ok) {b : Addr} {o : Obj} (e : X.base.get? b = some o) : b ∉ X.fs := fun hb => by
  have := (ok.funs.mem hb).1
  rw [e] at this; cases this
theorem Inv.bs (I : Inv X pins σ H s) : ∀ b o, X.base.get? b = some o -> s.heap.get? b = some o /\ H b = none := fun b o e =>
  ⟨I.base.keep b o (I.ok.bs b o e).1 (I.ok.bs b o e).2 (I.ok.nofr e) (I.ok.noex b o e), I.base.free b o (I.ok.bs b o e).1 (I.ok.bs b o e).2 (I.ok.noex b o e)⟩
theorem Inv.bk (I : Inv X pins σ H s) : ∀ b o, X.base.get? b = some o -> s.heap.get? b = some o := fun b o e => (I.bs b o e).1
theorem Inv.mod (I : Inv X pins σ H s) : Mod X.K X.mg X.base := I.ok.mod
theorem Inv.kIn (I : Inv X pins σ H s) : X.K.In s.heap := I.ok.mod.kin.keeps I.bk
theorem Inv.lt (I : Inv X pins σ H s) : X.env.locals < s.heap.objs.size := let ⟨_, hn, _⟩ := I.loc; hn.lt
theorem Inv.sz (I : Inv X pins σ H s) : X.s₀.heap.objs.size <= s.heap.objs.size := Nat.le_trans I.ok.above (Nat.le_of_lt I.lt)
theorem Inv.nofs (I : Inv X pins σ H s) {a : Addr} (h : s.heap.objs.size <= a) : a ∉ X.fs := fun hb => by
  obtain ⟨_, o, ho, _⟩ := I.ok.funs.mem hb
  exact absurd (Nat.lt_of_lt_of_le (Heap.lt_size ho) (Nat.le_trans I.sz h)) (Nat.lt_irrefl _)
theorem Inv.cne (I : Inv X pins σ H s) : ∀ x c, X.env.cells.lookup x = some c -> c ≠ X.env.locals := fun x c e z => by
  obtain ⟨v, o, ho, hd⟩ := I.cell x c e
  obtain ⟨m, ⟨o', es, ep, ho', hd', _⟩, _⟩ := I.loc
  rw [z, ho'] at ho; cases ho; rw [hd'] at hd; cases hd
theorem Inv.funs (I : Inv X pins σ H s) : s.heap.FunFrames X.base X.outer := by
  have all : ∀ (l : List Env), (∀ b ∈ frs l, b ∈ X.fs) -> X.s₀.heap.FunFrames X.base l -> s.heap.FunFrames X.base l := by
    intro l
    induction l with
    | nil => intro _ _; trivial
    | cons env r ih =>
      intro hs hl
      obtain ⟨hk, ⟨L, o, hf, hn, ho, hd⟩, hr⟩ := hl
      have hL : L ∈ X.fs := hs L (by unfold frs; rw [List.filterMap_cons, hf]; exact List.mem_cons_self)
      obtain ⟨sl, e⟩ := I.base.slot L o ho (I.ok.frf L hL) hL fun z => I.ok.exfs L z hL
      exact ⟨hk, ⟨L, _, hf, hn, e, hd⟩, ih (fun b hb => hs b (by unfold frs; rw [List.filterMap_cons, hf]; exact List.mem_cons_of_mem _ hb)) hr⟩
  exact all X.outer (fun _ hb => hb) I.ok.funs
theorem Inv.stack (I : Inv X pins σ H s) : s.heap.FunFrames X.base X.stack := by
  rcases I.ok.stk with e | ⟨e, hf⟩
  · rw [e]; exact I.funs
  · rw [e]
    obtain ⟨m, hn, _⟩ := I.loc
    refine .cons (by rw [I.ok.kind]; decide) hf hn ?_ I.funs
    exact Heap.get?_none_of_le (Nat.le_trans I.ok.bsz I.ok.above)
theorem Inv.stkSub (I : Inv X pins σ H s) : ∀ b ∈ frs X.stack, b ∈ X.env.locals :: X.fs := fun b hb => by
  rcases I.ok.stk with e | ⟨e, hf⟩
  · rw [e] at hb; exact List.mem_cons_of_mem _ hb
  · rw [e] at hb
    unfold frs at hb
    rw [List.filterMap_cons, hf] at hb
    exact hb
theorem Inv.stkFree (I : Inv X pins σ H s) : ∀ b ∈ frs X.stack, H b = none := fun b hb => by
  rcases List.mem_cons.mp (I.stkSub b hb) with e | hb
  · rw [e]; exact I.free
  · obtain ⟨_, o, ho, _⟩ := I.ok.funs.mem hb
    exact I.base.free b o ho (I.ok.frf b hb) fun z => I.ok.exfs b z hb
theorem Inv.step {g' : Array GenState} {t' : Nat} {d' : Drawn} {ch : List Addr} (I : Inv X pins σ H s)
    (hch : ∀ b ∈ ch, (b ∈ X.ex \/ X.s₀.heap.objs.size <= b) /\ b ≠ X.env.locals /\ (∀ x c, X.env.cells.lookup x = some c -> c ≠ b) /\ ∀ p ∈ X.pn ++ pins, p.1 ≠ b)
    (keep : ∀ b o, b ≠ X.env.locals -> b ∉ X.fs -> b ∉ ch -> s.heap.get? b = some o -> H b = none -> h'.get? b = some o)
    (slot : ∀ b o, b ≠ X.env.locals -> b ∈ X.fs -> b ∉ ch -> s.heap.get? b = some o -> H b = none -> ∃ sl, h'.get? b = some { o with slots := sl }) (free : ∀ b o, b ∉ ch -> s.heap.get? b = some o -> H b = none -> H' b = none)
    (there : ∀ b o, b ∉ ch -> s.heap.get? b = some o -> ∃ o', h'.get? b = some o')
    (tups : ∀ b xs, H b = some (.tup xs) -> H' b = some (.tup xs)) (frzs : ∀ b o u, H b = some (.frz o u) -> H' b = some (.frz o u)) (tbls : ∀ b ps, H b = some (.tbl ps) -> ∃ more, H' b = some (.tbl (ps ++ more)))
    (ns : ∀ m, s.heap.Ns X.env.locals m -> h'.Ns X.env.locals m) (hok : HOk X.prog X.w H' h') (hg : AllBare g') :
    Inv X pins σ H' { s with heap := h', gens := g', drawn := d', toks := t' } := by
  have neL : ∀ b o, X.s₀.heap.get? b = some o -> b ≠ X.env.locals := fun b o e => Nat.ne_of_lt (Nat.lt_of_lt_of_le (Heap.lt_size e) I.ok.above)
  have neC : ∀ b o, X.s₀.heap.get? b = some o -> b ∉ X.ex -> b ∉ ch := fun b o e hx hb => by
    rcases (hch b hb).1 with z | z
    · exact hx z
    · exact absurd (Nat.lt_of_lt_of_le (Heap.lt_size e) z) (Nat.lt_irrefl _)
  have cellK : ∀ x c, X.env.cells.lookup x = some c -> ∀ v, s.heap.IsCell c v -> h'.IsCell c v := fun x c e v ⟨o, ho, hd⟩ => by
    have nch : c ∉ ch := fun z => (hch c z).2.2.1 x c e rfl
    by_cases hc : c ∈ X.fs
    · obtain ⟨sl, q⟩ := slot c o (I.cne x c e) hc nch ho (I.freeC x c e)
      exact ⟨_, q, hd⟩
    · exact ⟨o, keep c o (I.cne x c e) hc nch ho (I.freeC x c e), hd⟩
  refine ⟨I.ok, I.os, hg, ⟨fun b o e n hb hx => ?_, fun b o e n hb hx => ?_, fun b o e n hx => ?_, fun b o e hx => ?_, fun b xs e => tups b xs (I.base.tups b xs e), fun b o xs e => frzs b o xs (I.base.frzs b o xs e), fun b ps e => ?_⟩, ?_, fun x c e => ?_, ?_, fun x c e => ?_, fun p hp => ?_, hok, I.len⟩
  · exact keep b o (neL b o e) hb (neC b o e hx) (I.base.keep b o e n hb hx) (I.base.free b o e n hx)
  · obtain ⟨sl, e1⟩ := I.base.slot b o e n hb hx
    obtain ⟨sl', e2⟩ := slot b _ (neL b o e) hb (neC b o e hx) e1 (I.base.free b o e n hx)
    exact ⟨sl', e2⟩
  · obtain ⟨o', e1⟩ := I.base.there b o e hx
    exact free b o' (neC b o e hx) e1 (I.base.free b o e n hx)
  · obtain ⟨o', e1⟩ := I.base.there b o e hx
    exact there b o' (neC b o e hx) e1
  · obtain ⟨m1, e1⟩ := I.base.tbls b ps e
    obtain ⟨m2, e2⟩ := tbls b _ e1
    exact ⟨m1 ++ m2, by rw [e2, Array.append_assoc]⟩
  · obtain ⟨m, hn, hl⟩ := I.loc
    refine ⟨m, ns m hn, fun i x v e1 e2 e3 => ?_⟩
    obtain ⟨u, r, l⟩ := hl i x v e1 e2 e3
    refine ⟨u, r, ?_⟩
    rcases l with l | ⟨k, c, e, z⟩
    · exact .inl l
    · exact .inr ⟨k, c, e, cellK x c e _ z⟩
  · obtain ⟨v, z⟩ := I.cell x c e
    exact ⟨v, cellK x c e v z⟩
  · obtain ⟨m, ⟨o, _, _, ho, _⟩, _⟩ := I.loc
    exact free _ o (fun z => (hch _ z).2.1 rfl) ho I.free
  · obtain ⟨v, o, ho, hd⟩ := I.cell x c e
    exact free c o (fun z => (hch c z).2.2.1 x c e rfl) ho (I.freeC x c e)
  · obtain ⟨e, n, ne, nf, d⟩ := I.pin p hp
    have nch : p.1 ∉ ch := fun z => (hch p.1 z).2.2.2 p hp rfl
    exact ⟨keep p.1 p.2 ne nf nch e n, free p.1 p.2 nch e n, ne, nf, d⟩
theorem Inv.un {t' : Nat} (I : Inv X pins σ H s) (u : Un X.fs [] H H' s.heap h') (hok : HOk X.prog X.w H' h') : Inv X pins σ H' { s with heap := h', toks := t' } := by
  obtain ⟨m, ⟨o, es, ep, ho, r⟩, _⟩ := id I.loc
  obtain ⟨sl, hL⟩ := u.any ho I.free (by simp)
  exact I.step (g' := s.gens) (d' := s.drawn) (ch := []) (fun _ z => nomatch z) (fun b o _ hb _ e n => u.keep b o e n hb (by simp)) (fun b o _ hb _ e n => u.slot b o e n hb (by simp)) (fun b o _ e n => u.free b o e n (by simp)) (fun b o _ e => u.there b o e (by simp)) u.tups u.frzs u.tbls (fun m' hm => by
    obtain ⟨o', es', ep', ho', r'⟩ := hm
    rw [ho] at ho'; cases ho'
    exact ⟨_, es', ep', hL, r'⟩) hok I.bare
theorem Inv.call {g' : Array GenState} {t' : Nat} {d' : Drawn} {ch : List Addr} (I : Inv X pins σ H s) (u : Un (frs X.stack) ch H H' s.heap h') (hok : HOk X.prog X.w H' h') (hg : AllBare g')
    (hch : ∀ b ∈ ch, (b ∈ X.ex \/ X.s₀.heap.objs.size <= b) /\ b ≠ X.env.locals /\ (∀ x c, X.env.cells.lookup x = some c -> c ≠ b) /\ ∀ p ∈ X.pn ++ pins, p.1 ≠ b) :
    Inv X pins σ H' { s with heap := h', gens := g', drawn := d', toks := t' } := by
  obtain ⟨m, ⟨o, es, ep, ho, r⟩, _⟩ := id I.loc
  obtain ⟨sl, hL⟩ := u.any ho I.free fun z => (hch _ z).2.1 rfl
  exact I.step (ch := ch) hch (fun b o hL hb hc e n => u.keep b o e n (fun z => (List.mem_cons.mp (I.stkSub b z)).elim hL hb) hc) (fun b o _ _ hc e n => u.any e n hc) (fun b o hc e n => u.free b o e n hc) (fun b o hc e => u.there b o e hc) u.tups u.frzs u.tbls (fun m' hm => by
    obtain ⟨o', es', ep', ho', r'⟩ := hm
    rw [ho] at ho'; cases ho'
    exact ⟨_, es', ep', hL, r'⟩) hok hg
theorem Inv.turned {t' : Nat} {it : Addr} (I : Inv X pins σ H s) (k : ∀ b o, b ≠ it -> s.heap.get? b = some o -> h'.get? b = some o) (hn : H it = none) (hL : it ≠ X.env.locals)
    (h1 : it ∈ X.ex \/ X.s₀.heap.objs.size <= it) (h2 : ∀ x c, X.env.cells.lookup x = some c -> c ≠ it) (h3 : ∀ p ∈ X.pn ++ pins, p.1 ≠ it) : Inv X pins σ H { s with heap := h', toks := t' } := by
  have nit : ∀ b u, H b = some u -> b ≠ it := fun b u e z => by rw [z, hn] at e; cases e
  refine I.step (g' := s.gens) (d' := s.drawn) (ch := [it]) (fun b hb => ?_) (fun b o _ _ hc e _ => k b o (fun z => hc (by simp [z])) e) (fun b o _ _ hc e _ => ⟨o.slots, k b o (fun z => hc (by simp [z])) e⟩) (fun _ _ _ _ n => n)
    (fun b o hc e => ⟨o, k b o (fun z => hc (by simp [z])) e⟩) (fun _ _ e => e) (fun _ _ _ e => e) (fun b ps e => ⟨#[], by rw [e]; simp⟩) (fun m hm => ?_) (fun b u e => ?_) I.bare
  · have e : b = it := by simpa using hb
    subst e
    exact ⟨h1, hL, h2, h3⟩
  · obtain ⟨o, es, ep, ho, r⟩ := hm
    exact ⟨o, es, ep, k _ o (Ne.symm hL) ho, r⟩
  · refine (I.hok b u e).stay (fun c v hc q => k c v ?_ q) (fun _ q => q) fun _ _ q => q
    rcases hc with z | z
    · rw [z]; exact nit b u e
    · exact nit c _ z
theorem Inv.tok (I : Inv X pins σ H s) (t : Nat) : Inv X pins σ H { s with toks := t } := I.un (h' := s.heap) (t' := t) Un.refl I.hok
theorem Inv.kept {t' : Nat} (I : Inv X pins σ H s) (k : ∀ b u, s.heap.get? b = some u -> h'.get? b = some u) : Inv X pins σ H { s with heap := h', toks := t' } := I.un (Un.kept k) (I.hok.kept k)
theorem Inv.laid {a : Addr} {o : HO} {t' : Nat} (I : Inv X pins σ H s) (k : ∀ b u, s.heap.get? b = some u -> h'.get? b = some u) (hp : s.heap.objs.size <= a) (new : ObjOk X.prog X.w (upd H a o) h' a o) :
    Inv X pins σ (upd H a o) { s with heap := h', toks := t' } := I.un (Un.laid k hp (I.hok.fresh hp)) (I.hok.laid k hp new)
theorem Inv.write {x e : Addr} {o : HO} {t' : Nat} (I : Inv X pins σ H s) (mu : Mut (H x)) (he : e = x \/ H e = some (.own x)) (k : ∀ b u, b ≠ e -> s.heap.get? b = some u -> h'.get? b = some u) (heo : ∃ u, h'.get? e = some u)
    (new : ObjOk X.prog X.w (upd H x o) h' x o) : Inv X pins σ (upd H x o) { s with heap := h', toks := t' } := I.un (Un.write mu he k heo) (I.hok.write mu he k heo new)
theorem Inv.pins_of {pins' : List (Addr × Obj)} (I : Inv X pins σ H s) (h : ∀ p ∈ pins', s.heap.get? p.1 = some p.2 /\ H p.1 = none /\ p.1 ≠ X.env.locals /\ p.1 ∉ X.fs /\ ∀ v, p.2.data ≠ .cell v) : Inv X pins' σ H s :=
  ⟨I.ok, I.os, I.bare, I.base, I.loc, I.cell, I.free, I.freeC, fun p hp => (List.mem_append.mp hp).elim (fun z => I.pin p (List.mem_append_left _ z)) (h p), I.hok, I.len⟩
theorem nodup_ix {N : List Str} (hN : N.Nodup) {i j : Nat} {x : Str} (a : N[i]? = some x) (b : N[j]? = some x) : i = j := by
  obtain ⟨h1, e1⟩ := List.getElem?_eq_some_iff.mp a
  obtain ⟨h2, e2⟩ := List.getElem?_eq_some_iff.mp b
  exact (List.getElem_inj hN).mp (e1.trans e2.symm)
theorem store_ok2 {M : Model} {A : Around} {E : Value -> Shared -> Prop} {i : Nat} {x : Str} {v : V} {u : Value} {Q : Unit -> Shared -> Prop} (I : Inv X pins σ H s) (hN : X.N.Nodup) (hi : X.N[i]? = some x) (hx : Loc X.env.scope x) (r : RelV v u)
    (h : ∀ s', Inv X pins (σ.set i (some v)) H s' -> (∃ a, Heap.SameBut a s.heap s'.heap /\ (a = X.env.locals \/ X.env.cells.lookup x = some a)) -> Q () s') (hf : X.fn x = true \/ X.env.scope.names.lookup x = some .local := by first | exact .inl rfl | exact .inr rfl | assumption) : wpAny M A (storeName X.env x u) Q E s := by
  obtain ⟨m, hn, hl⟩ := id I.loc
  have hcls : (X.env.scope.kind == .class || (X.env.scope.kind == .module && X.env.locals != X.env.globals)) = false := by rw [I.ok.kind]; rfl
  have hiσ : i < σ.length := by rw [I.len]; exact (List.getElem?_eq_some_iff.mp hi).1
  have cne := I.cne
  have tracked : ∀ {a : Addr} {h' : Heap}, (∃ o, s.heap.get? a = some o /\ H a = none) -> Heap.SameBut a s.heap h' -> HOk X.prog X.w H h' := fun {a h'} ha hs b ob e => by
    obtain ⟨_, _, hfree⟩ := ha
    refine (I.hok b ob e).stay (fun c w' hc q => (hs.2 c ?_).trans q) (fun _ q => q) fun _ _ q => q
    rintro rfl
    rcases hc with rfl | hc
    · rw [hfree] at e; cases e
    · rw [hfree] at hc; cases hc
  rcases hx with hk | hk
  · refine wpAny_storeName_local hk hn (fun h' hn' hs => ?_) hcls
    obtain ⟨oL, _, _, hoL, _⟩ := id hn
    refine h _ ⟨I.ok, I.os, I.bare, ⟨fun b o e n hb hx => ?_, fun b o e n hb hx => ?_, I.base.free, fun b o e hx => ?_, I.base.tups, I.base.frzs, I.base.tbls⟩, ⟨_, hn', fun j y v' e1 e2 e3 => ?_⟩, fun y c e => ?_, I.free, I.freeC, fun p hp => ?_, tracked ⟨oL, hoL, I.free⟩ hs, by simpa using I.len⟩ ⟨_, hs, .inl rfl⟩
    · exact (hs.2 b (Nat.ne_of_lt (Nat.lt_of_lt_of_le (Heap.lt_size e) I.ok.above))).trans (I.base.keep b o e n hb hx)
    · obtain ⟨sl, e1⟩ := I.base.slot b o e n hb hx
      exact ⟨sl, (hs.2 b (Nat.ne_of_lt (Nat.lt_of_lt_of_le (Heap.lt_size e) I.ok.above))).trans e1⟩
    · obtain ⟨o', e1⟩ := I.base.there b o e hx
      exact ⟨o', (hs.2 b (Nat.ne_of_lt (Nat.lt_of_lt_of_le (Heap.lt_size e) I.ok.above))).trans e1⟩
    · by_cases hj : j = i
      · subst hj
        rw [hi] at e1; cases e1
        rw [List.getElem?_set_self hiσ] at e2
        cases e2
        exact ⟨u, r, .inl ⟨hk, by simp⟩⟩
      · rw [List.getElem?_set_ne (Ne.symm hj)] at e2
        obtain ⟨u', r', q⟩ := hl j y v' e1 e2 e3
        refine ⟨u', r', ?_⟩
        rcases q with ⟨k, e⟩ | ⟨k, c, e, z⟩
        · refine .inl ⟨k, ?_⟩
          have : y ≠ x := fun e => hj (nodup_ix hN e1 (e ▸ hi))
          simp [this, e]
        · exact .inr ⟨k, c, e, z.sameBut hs (cne y c e)⟩
    · obtain ⟨w', z⟩ := I.cell y c e
      exact ⟨w', z.sameBut hs (cne y c e)⟩
    · obtain ⟨e, n, ne, nf, d⟩ := I.pin p hp
      exact ⟨(hs.2 p.1 ne).trans e, n, ne, nf, d⟩
  · have hfn : X.fn x = true := by
      rcases hf with z | z
      · exact z
      · rw [z] at hk; cases hk
    obtain ⟨c, hc⟩ := I.ok.has x (.inl hk)
    obtain ⟨w', z⟩ := I.cell x c hc
    refine wpAny_storeName_cell I.ok.kind hk hc z (fun h' hc' hs => ?_)
    obtain ⟨oc, hoc, hocd⟩ := id z
    refine h { s with heap := h' } ⟨I.ok, I.os, I.bare, ⟨fun b o e n hb hx => ?_, fun b o e n hb hx => ?_, I.base.free, fun b o e hx => ?_, I.base.tups, I.base.frzs, I.base.tbls⟩, ⟨m, hn.sameBut hs (Ne.symm (cne x c hc)), fun j y v' e1 e2 e3 => ?_⟩, fun y c' e => ?_, I.free, I.freeC, fun p hp => ?_, tracked ⟨oc, hoc, I.freeC x c hc⟩ hs, by simpa using I.len⟩ ⟨c, hs, .inr hc⟩
    · exact (hs.2 b (Nat.ne_of_lt (Nat.lt_of_lt_of_le (Heap.lt_size e) (I.ok.cab x c hfn hc)))).trans (I.base.keep b o e n hb hx)
    · obtain ⟨sl, e1⟩ := I.base.slot b o e n hb hx
      exact ⟨sl, (hs.2 b (Nat.ne_of_lt (Nat.lt_of_lt_of_le (Heap.lt_size e) (I.ok.cab x c hfn hc)))).trans e1⟩
    · obtain ⟨o', e1⟩ := I.base.there b o e hx
      exact ⟨o', (hs.2 b (Nat.ne_of_lt (Nat.lt_of_lt_of_le (Heap.lt_size e) (I.ok.cab x c hfn hc)))).trans e1⟩
    · by_cases hj : j = i
      · subst hj
        rw [hi] at e1; cases e1
        rw [List.getElem?_set_self hiσ] at e2
        cases e2
        exact ⟨u, r, .inr ⟨.inl hk, c, hc, hc'⟩⟩
      · rw [List.getElem?_set_ne (Ne.symm hj)] at e2
        obtain ⟨u', r', q⟩ := hl j y v' e1 e2 e3
        refine ⟨u', r', ?_⟩
        rcases q with q | ⟨k, c', e, z'⟩
        · exact .inl q
        · refine .inr ⟨k, c', e, z'.sameBut hs ?_⟩
          rintro rfl
          exact hj (nodup_ix hN e1 (I.ok.inj _ _ _ e hc ▸ hi))
    · by_cases hcc : c' = c
      · subst hcc; exact ⟨_, hc'⟩
      · obtain ⟨w2, z2⟩ := I.cell y c' e
        exact ⟨w2, z2.sameBut hs hcc⟩
    · obtain ⟨e, n, ne, nf, d⟩ := I.pin p hp
      refine ⟨(hs.2 p.1 ?_).trans e, n, ne, nf, d⟩
      intro q
      rw [q, hoc] at e
      have q' : oc = p.2 := Option.some.inj e
      exact d w' (by rw [<- q']; exact hocd)
theorem store_ok {M : Model} {A : Around} {E : Value -> Shared -> Prop} {i : Nat} {x : Str} {v : V} {u : Value} {Q : Unit -> Shared -> Prop} (I : Inv X pins σ H s) (hN : X.N.Nodup) (hi : X.N[i]? = some x) (hx : Loc X.env.scope x) (r : RelV v u)
    (h : ∀ s', Inv X pins (σ.set i (some v)) H s' -> Q () s') (hf : X.fn x = true \/ X.env.scope.names.lookup x = some .local := by first | exact .inl rfl | exact .inr rfl | assumption) : wpAny M A (storeName X.env x u) Q E s :=
  store_ok2 I hN hi hx r (fun s' I' _ => h s' I') hf
theorem Inv.call' {s' : Shared} {ch : List Addr} (I : Inv X pins σ H s) (ho : s'.os = s.os) (u : Un (frs X.stack) ch H H' s.heap s'.heap) (hok : HOk X.prog X.w H' s'.heap) (hg : AllBare s'.gens)
    (hch : ∀ b ∈ ch, (b ∈ X.ex \/ X.s₀.heap.objs.size <= b) /\ b ≠ X.env.locals /\ (∀ x c, X.env.cells.lookup x = some c -> c ≠ b) /\ ∀ p ∈ X.pn ++ pins, p.1 ≠ b) : Inv X pins σ H' s' := by
  obtain ⟨h', g', d', t', o'⟩ := s'
  have e : o' = s.os := ho
  subst e
  exact I.call (g' := g') (t' := t') (d' := d') u hok hg hch
end
abbrev XK := Value -> Option Addr -> Hp -> Prop
abbrev St := List (Option V)
abbrev VK := V -> Hp -> Prop
abbrev TE := St -> Hp -> VK -> Prop
abbrev TT := St -> Hp -> (Bool -> Hp -> Prop) -> Prop
abbrev TA := St -> Hp -> (List V -> Hp -> Prop) -> Prop
structure Ends where
  nx : St -> Hp -> Prop
  rt : VK
  bk : St -> Hp -> Prop := fun _ _ => False
  ct : St -> Hp -> Prop := fun _ _ => False
abbrev TS := Ends -> St -> Hp -> Prop
def EP (X : Cx) (pins : List (Addr × Obj)) (σ : St) (Q : VK) (u : Value) (s' : Shared) : Prop := ∃ v H', Inv X pins σ H' s' /\ RelV v u /\ Q v H'
def TP (X : Cx) (pins : List (Addr × Obj)) (σ : St) (Q : Bool -> Hp -> Prop) (b : Bool) (s' : Shared) : Prop := ∃ H', Inv X pins σ H' s' /\ Q b H'
def AP (X : Cx) (pins : List (Addr × Obj)) (σ : St) (Q : List V -> Hp -> Prop) (us : List Value) (s' : Shared) : Prop := ∃ vs H', Inv X pins σ H' s' /\ Vals vs us /\ Q vs H'
def SP (X : Cx) (pins : List (Addr × Obj)) (D : Ends) (f : Flow) (s' : Shared) : Prop :=
  match f with
  | .next => ∃ σ' H', Inv X pins σ' H' s' /\ D.nx σ' H'
  | .brk => ∃ σ' H', Inv X pins σ' H' s' /\ D.bk σ' H'
  | .cont => ∃ σ' H', Inv X pins σ' H' s' /\ D.ct σ' H'
  | .ret u => ∃ v σ' H', Inv X pins σ' H' s' /\ RelV v u /\ D.rt v H'
def PE (X : Cx) (e : Expr) (t : TE) : Prop :=
  ∀ (pins : List (Addr × Obj)) (s : Shared) (σ : St) (H : Hp) (Q : VK), Inv X pins σ H s -> t σ H Q -> wpAny (model X.prog X.w) X.A (eval e X.env) (EP X pins σ Q) X.xe s
def PT (X : Cx) (e : Expr) (t : TT) : Prop :=
  ∀ (pins : List (Addr × Obj)) (s : Shared) (σ : St) (H : Hp) (Q : Bool -> Hp -> Prop), Inv X pins σ H s -> t σ H Q -> wpAny (model X.prog X.w) X.A (isTrue e X.env (eval e X.env)) (TP X pins σ Q) X.xe s
def PW (X : Cx) (e : Expr) (t : TT) : Prop :=
  ∀ (whole : Sem Value) (pins : List (Addr × Obj)) (s : Shared) (σ : St) (H : Hp) (Q : Bool -> Hp -> Prop), Inv X pins σ H s -> t σ H Q -> wpAny (model X.prog X.w) X.A (isTrue e X.env whole) (TP X pins σ Q) X.xe s
theorem PW.pt {X : Cx} {e : Expr} {t : TT} (h : PW X e t) : PT X e t := h _
def PA (X : Cx) (es : List Expr) (t : TA) : Prop :=
  ∀ (pos : Pos) (pins : List (Addr × Obj)) (s : Shared) (σ : St) (H : Hp) (Q : List V -> Hp -> Prop), Inv X pins σ H s -> t σ H Q -> wpAny (model X.prog X.w) X.A (spliced (backTo pos (starEach es X.env))) (AP X pins σ Q) X.xe s
def PS (X : Cx) (st : Stmt) (t : TS) : Prop :=
  ∀ (pins : List (Addr × Obj)) (s : Shared) (σ : St) (H : Hp) (D : Ends), Inv X pins σ H s -> t D σ H -> wpAny (model X.prog X.w) X.A (exec st X.env) (SP X pins D) X.xe s
def PSs (X : Cx) (st : List Stmt) (t : TS) : Prop :=
  ∀ (pins : List (Addr × Obj)) (s : Shared) (σ : St) (H : Hp) (D : Ends), Inv X pins σ H s -> t D σ H -> wpAny (model X.prog X.w) X.A (execs st X.env) (SP X pins D) X.xe s
theorem thn {α : Type} {t : Sem α} {Q Q' : α -> Shared -> Prop} {M : Model} {A : Around} {E : Value -> Shared -> Prop} {s : Shared} (h : wpAny M A t Q E s) (hQ : ∀ a s, Q a s -> Q' a s) : wpAny M A t Q' E s := wpAny_mono h hQ fun _ _ x => x
section
variable {X : Cx}
def tVar (i : Nat) : TE := fun σ H Q => ∃ v, σ[i]? = some (some v) /\ Q v H
def tC (v : V) : TE := fun _ H Q => Q v H
theorem pe_var {i : Nat} {x : Str} {pos : Pos} (hN : X.N[i]? = some x) (hv : Vis X.env.scope x) (hd : (x == ("__debug__" : Str)) = false := by decide) (hcd : (x == ("__classdict__" : Str)) = false := by decide) : PE X (.Name x pos) (tVar i) := by
  intro pins s σ H Q I h
  obtain ⟨v, e, h⟩ := h
  obtain ⟨m, hn, hl⟩ := I.loc
  obtain ⟨u, r, l⟩ := hl i x v hN e hv
  have fin : EP X pins σ Q u s := ⟨v, H, I, r, h⟩
  rcases l with ⟨hk, hm⟩ | ⟨hk, c, hc, hcell⟩
  · exact wpAny_Name (wpAny_loadName_local I.ok.kind hk hn hm fin) hd
  · rcases hk with hk | hk
    · exact wpAny_Name (wpAny_loadName_cell I.ok.kind hk hc hcell fin) hd
    · exact wpAny_Name (wpAny_loadName_free I.ok.kind hk hc hcell fin hcd) hd
theorem pe_int {i j pos} : PE X (.Constant (.int i) j pos) (tC (.int i)) := fun _ _ _ H _ I h => wpAny_Constant_int ⟨.int i, H, I.tok _, ⟨_, rfl⟩, h⟩
theorem pe_bl {b j pos} : PE X (.Constant (.bool b) j pos) (tC (.bl b)) := fun _ _ _ H _ I h => Constant_bool ⟨.bl b, H, I, rfl, h⟩
theorem pe_non {j pos} : PE X (.Constant .none j pos) (tC .non) := fun _ _ _ H _ I h => Constant_none ⟨.non, H, I, rfl, h⟩
theorem pe_str {x j pos} : PE X (.Constant (.str x) j pos) (tC (.str x)) := fun _ _ _ H _ I h => Calls.Constant_str ⟨.str x, H, I.tok _, ⟨_, rfl⟩, h⟩
def Gl (X : Cx) (x : Str) : Prop := X.env.kindOf x = some .globalImplicit
theorem ld_glob {E : Value -> Shared -> Prop} {pins : List (Addr × Obj)} {s : Shared} {σ : St} {H : Hp} {x : Str} {u : Value} {pos : Pos} {Q : Value -> Shared -> Prop} (I : Inv X pins σ H s) (hg : Gl X x) (hm : X.mg x = some u) (h : Q u s)
    (hd : (x == ("__debug__" : Str)) = false := by decide) : wpAny (model X.prog X.w) X.A (eval (.Name x pos) X.env) Q E s :=
  Calls.Name_function_global I.ok.kind hg (Calls.loadGlobal_global (by rw [I.ok.glob]; exact I.mod.glob.keeps I.bk) hm h) hd
theorem ld_blt {E : Value -> Shared -> Prop} {pins : List (Addr × Obj)} {s : Shared} {σ : St} {H : Hp} {x : Str} {u : Value} {pos : Pos} {Q : Value -> Shared -> Prop} (I : Inv X pins σ H s) (hg : Gl X x) (hm : X.mg x = none) (hv : bootBuiltins x = some u) (h : Q u s)
    (hn : x ≠ "__name__" := by decide) (hd : (x == ("__debug__" : Str)) = false := by decide) : wpAny (model X.prog X.w) X.A (eval (.Name x pos) X.env) Q E s := by
  obtain ⟨mb, h1, h2⟩ := I.mod.blt
  exact Calls.Name_function_global I.ok.kind hg (Calls.loadGlobal_builtin (by rw [I.ok.glob]; exact I.mod.glob.keeps I.bk) hm (by rw [I.ok.blt]; exact h1.keeps I.bk) ((h2 x hn).trans hv) h) hd
theorem pe_glob {x : Str} {v : V} {u : Value} {pos : Pos} (hg : Gl X x) (hm : X.mg x = some u) (r : RelV v u) (hd : (x == ("__debug__" : Str)) = false := by decide) : PE X (.Name x pos) (tC v) :=
  fun _ _ _ H _ I h => ld_glob I hg hm ⟨v, H, I, r, h⟩ hd
theorem pe_bltn {x : Str} {v : V} {u : Value} {pos : Pos} (hg : Gl X x) (hm : X.mg x = none) (hv : bootBuiltins x = some u) (r : RelV v u) (hn : x ≠ "__name__" := by decide) (hd : (x == ("__debug__" : Str)) = false := by decide) : PE X (.Name x pos) (tC v) :=
  fun _ _ _ H _ I h => ld_blt I hg hm hv ⟨v, H, I, r, h⟩ hn hd
variable {a b : Expr} {ta tb : TE} {pos : Pos}
def tB (t : TE) : TT := fun σ H Q => t σ H fun x H1 => ∃ c, x = .bl c /\ Q c H1
theorem pt_val {e : Expr} {t : TE} (h : PE X e t) (he : ∀ whole, isTrue e X.env whole = (do let v <- whole; standAt e.pos; holding [v] (truthy v)) := by intro _; rfl) : PT X e (tB t) := by
  intro pins s σ H Q I hw
  refine isTrue_plain (thn (h pins s σ H _ I hw) fun v s1 ⟨x, H1, I1, r1, q1⟩ => ?_) (he _)
  obtain ⟨d, rfl, q⟩ := q1
  cases r1
  exact wpAny_truthy_bool ⟨H1, I1, q⟩
variable {tA tB' : TT} {rest : List Expr}
def tAnd (t u : TT) : TT := fun σ H Q => t σ H fun c H1 => if c = true then u σ H1 Q else Q false H1
def tOr (t u : TT) : TT := fun σ H Q => t σ H fun c H1 => if c = true then Q true H1 else u σ H1 Q
def tNot (t : TT) : TT := fun σ H Q => t σ H fun c H1 => Q (!c) H1
theorem pw_and1 (ha : PT X a tA) : PW X (.BoolOp .And [a] pos) tA := by
  intro wh pins s σ H Q I h
  refine isTrue_and (thn (ha pins s σ H Q I h) fun c s1 e => ?_)
  cases c with
  | true => exact isTrue_and_nil e
  | false => exact e
theorem pw_or1 (ha : PT X a tA) : PW X (.BoolOp .Or [a] pos) tA := by
  intro wh pins s σ H Q I h
  refine isTrue_or (thn (ha pins s σ H Q I h) fun c s1 e => ?_)
  cases c with
  | false => exact isTrue_or_nil e
  | true => exact e
theorem pw_and (ha : PT X a tA) (hb : PW X (.BoolOp .And (b :: rest) pos) tB') : PW X (.BoolOp .And (a :: b :: rest) pos) (tAnd tA tB') := by
  intro wh pins s σ H Q I h
  refine isTrue_and (thn (ha pins s σ H _ I h) fun c s1 ⟨H1, I1, q1⟩ => ?_)
  cases c with
  | true => exact hb wh pins s1 σ H1 Q I1 q1
  | false => exact ⟨H1, I1, q1⟩
theorem pw_or (ha : PT X a tA) (hb : PW X (.BoolOp .Or (b :: rest) pos) tB') : PW X (.BoolOp .Or (a :: b :: rest) pos) (tOr tA tB') := by
  intro wh pins s σ H Q I h
  refine isTrue_or (thn (ha pins s σ H _ I h) fun c s1 ⟨H1, I1, q1⟩ => ?_)
  cases c with
  | true => exact ⟨H1, I1, q1⟩
  | false => exact hb wh pins s1 σ H1 Q I1 q1
theorem pt_not (ha : PT X a tA) : PT X (.UnaryOp .Not a pos) (tNot tA) := by
  intro pins s σ H Q I h
  exact isTrue_not (ha pins s σ H (fun c H1 => Q (!c) H1) I h)
def tAndV (ta tb : TE) : TE := fun σ H Q => ta σ H fun x H1 => ∃ c, x = .bl c /\ if c = true then tb σ H1 Q else Q (.bl false) H1
def tNotV (ta : TE) : TE := fun σ H Q => ta σ H fun x H1 => ∃ c, x = .bl c /\ Q (.bl (!c)) H1
theorem pe_one {op} {t : TE} (h : PE X a t) : PE X (.BoolOp op [a] pos) t := fun pins s σ H Q I hw => BoolOp_one (h pins s σ H Q I hw)
theorem pe_and (ha : PE X a ta) (hb : PE X (.BoolOp .And (b :: rest) pos) tb) : PE X (.BoolOp .And (a :: b :: rest) pos) (tAndV ta tb) := by
  intro pins s σ H Q I h
  refine BoolOp_and (thn (ha pins s σ H _ I h) fun v s1 ⟨x, H1, I1, r1, q1⟩ => ?_)
  obtain ⟨c, rfl, q1⟩ := q1
  cases r1
  refine wpAny_truthy_bool ?_
  cases c with
  | true => exact hb pins s1 σ H1 Q I1 q1
  | false => exact ⟨.bl false, H1, I1, rfl, q1⟩
theorem pe_not (ha : PE X a ta) : PE X (.UnaryOp .Not a pos) (tNotV ta) := by
  intro pins s σ H Q I h
  refine UnaryOp_ (thn (ha pins s σ H _ I h) fun v s1 ⟨x, H1, I1, r1, q1⟩ => ?_)
  obtain ⟨c, rfl, q1⟩ := q1
  cases r1
  exact not_of (wpAny_truthy_bool ⟨.bl (!c), H1, I1, rfl, q1⟩)
end
def SqL (K : PySem.W.Frag) (H : Hp) (a : Addr) (xs : List V) : Prop :=
  Rd H a (.lst xs) \/
    ∃ (o : Obj) (its : Array Value) (n : Nat), K.lookup a = some o /\ o.cls = .type "list" /\ o.dict = none /\ o.data = .seq its n /\ its.size <= sizeLine /\ Vals xs its.toList
def SqT (K : PySem.W.Frag) (H : Hp) (a : Addr) (xs : List V) : Prop :=
  Rd H a (.tup xs) \/
    ∃ (o : Obj) (its : Array Value) (n : Nat), K.lookup a = some o /\ o.cls = .type "tuple" /\ o.data = .seq its n /\ its.size <= sizeLine /\ Vals xs its.toList
def absV : Value -> Option V
  | .none => some .non
  | .bool b => some (.bl b)
  | .int i _ => some (.int i)
  | .str x _ => some (.str x)
  | .bytes b _ => some (.byt b)
  | .float b _ => some (.flt b)
  | .ref a => some (.ref a)
  | .type n => some (.ty n)
  | _ => none
theorem RelV.abs {x : V} {u : Value} (r : RelV x u) : absV u = some x := by
  cases x with
  | non => cases r; rfl
  | bl _ => cases r; rfl
  | int _ => obtain ⟨t, rfl⟩ := r; rfl
  | str _ => obtain ⟨t, rfl⟩ := r; rfl
  | byt _ => obtain ⟨t, rfl⟩ := r; rfl
  | flt _ => obtain ⟨t, rfl⟩ := r; rfl
  | ref _ => cases r; rfl
  | ty _ => cases r; rfl
theorem RelV.inj {x y : V} {u : Value} (r : RelV x u) (q : RelV y u) : x = y := Option.some.inj (r.abs.symm.trans q.abs)
theorem Vals.inj : ∀ {xs ys : List V} {us : List Value}, Vals xs us -> Vals ys us -> xs = ys
  | _, _, _, .nil, .nil => rfl
  | _, _, _, .cons r t, .cons r' t' => by rw [r.inj r', Vals.inj t t']
section
variable {X : Cx} {pins : List (Addr × Obj)} {σ : St} {H : Hp} {s : Shared} {a : Addr} {xs ys : List V}
theorem SqL.of {K : PySem.W.Frag} (h : H a = some (.lst xs)) : SqL K H a xs := .inl (.inl h)
theorem SqT.of {K : PySem.W.Frag} (h : H a = some (.tup xs)) : SqT K H a xs := .inl (.inl h)
theorem Inv.list (I : Inv X pins σ H s) (h : SqL X.K H a xs) : ∃ its : List Value, Vals xs its /\ PlainL s.heap a its.toArray /\ xs.length <= sizeLine := by
  rcases h with h | ⟨o, its, n, hk, hc, hd, hs, hz, r⟩
  · obtain ⟨z, its, n, r, e⟩ := h.ok I.hok
    exact ⟨its, r, ⟨_, n, e, rfl, rfl, rfl⟩, z⟩
  · refine ⟨its.toList, r, ⟨o, n, I.kIn a o hk, hc, hd, by simpa using hs⟩, ?_⟩
    have e := r.length
    simp only [Array.length_toList] at e
    lia
theorem Inv.tuple (I : Inv X pins σ H s) (h : SqT X.K H a xs) : ∃ its : List Value, Vals xs its /\ IsTup s.heap a its.toArray /\ xs.length <= sizeLine := by
  rcases h with h | ⟨o, its, n, hk, hc, hs, hz, r⟩
  · obtain ⟨z, its, r, p⟩ := h.ok I.hok
    exact ⟨its, r, p, z⟩
  · refine ⟨its.toList, r, ⟨o, I.kIn a o hk, hc, n, by simpa using hs⟩, ?_⟩
    have e := r.length
    simp only [Array.length_toList] at e
    lia
theorem Inv.list_inj (I : Inv X pins σ H s) (h : SqL X.K H a xs) (h' : SqL X.K H a ys) : xs = ys := by
  obtain ⟨its, r, ⟨o, n, e, _, _, d⟩, _⟩ := I.list h
  obtain ⟨its', r', ⟨o', n', e', _, _, d'⟩, _⟩ := I.list h'
  rw [e] at e'; cases e'
  rw [d] at d'
  injection d' with d1 _
  have : its = its' := by simpa using congrArg Array.toList d1
  subst this
  exact r.inj r'
theorem Inv.tuple_inj (I : Inv X pins σ H s) (h : SqT X.K H a xs) (h' : SqT X.K H a ys) : xs = ys := by
  obtain ⟨its, r, ⟨o, e, _, n, d⟩, _⟩ := I.tuple h
  obtain ⟨its', r', ⟨o', e', _, n', d'⟩, _⟩ := I.tuple h'
  rw [e] at e'; cases e'
  rw [d] at d'
  injection d' with d1 _
  have : its = its' := by simpa using congrArg Array.toList d1
  subst this
  exact r.inj r'
end
abbrev Cx.wish (X : Cx) (E : Value -> Shared -> Prop) : Cx := { X with xe := E }
abbrev Cx.nox (X : Cx) : Cx := X.wish fun _ _ => False
theorem Cx.Ok.wish {X : Cx} (ok : X.Ok) (E : Value -> Shared -> Prop) : (X.wish E).Ok :=
  ⟨ok.mod, ok.kind, ok.glob, ok.blt, ok.above, ok.inj, ok.has, ok.cab, ok.hd, ok.frames, ok.stk, ok.exf, ok.bs, ok.bsz, ok.noex, ok.exfs, ok.funs, ok.frf⟩
theorem Cx.Ok.unwish {X : Cx} {E : Value -> Shared -> Prop} (ok : (X.wish E).Ok) : X.Ok :=
  ⟨ok.mod, ok.kind, ok.glob, ok.blt, ok.above, ok.inj, ok.has, ok.cab, ok.hd, ok.frames, ok.stk, ok.exf, ok.bs, ok.bsz, ok.noex, ok.exfs, ok.funs, ok.frf⟩
section
variable {X : Cx} {pins : List (Addr × Obj)} {σ : St} {H : Hp} {s : Shared} {E : Value -> Shared -> Prop}
theorem Inv.wish (I : Inv X pins σ H s) (E : Value -> Shared -> Prop) : Inv (X.wish E) pins σ H s := ⟨I.ok.wish E, I.os, I.bare, I.base, I.loc, I.cell, I.free, I.freeC, I.pin, I.hok, I.len⟩
theorem Inv.unwish (I : Inv (X.wish E) pins σ H s) : Inv X pins σ H s := ⟨I.ok.unwish, I.os, I.bare, I.base, I.loc, I.cell, I.free, I.freeC, I.pin, I.hok, I.len⟩
theorem SP.unwish {D : Ends} {f : Flow} {s' : Shared} (h : SP (X.wish E) pins D f s') : SP X pins D f s' := by
  cases f with
  | next => obtain ⟨σ', H', I, q⟩ := h; exact ⟨σ', H', I.unwish, q⟩
  | brk => obtain ⟨σ', H', I, q⟩ := h; exact ⟨σ', H', I.unwish, q⟩
  | cont => obtain ⟨σ', H', I, q⟩ := h; exact ⟨σ', H', I.unwish, q⟩
  | ret u => obtain ⟨v, σ', H', I, r, q⟩ := h; exact ⟨v, σ', H', I.unwish, r, q⟩
theorem PSs.nox {st : List Stmt} {t : TS} (h : PSs X.nox st t) : PSs X st t := fun pins s σ H D I hw =>
  wpAny_mono (h pins s σ H D (I.wish _) hw) (fun _ _ q => q.unwish) fun _ _ z => False.elim z
end
section
variable {X : Cx} {st : Stmt} {rest : List Stmt} {t u : TS} {e : Expr} {te : TE} {pos : Pos}
def tNext : TS := fun D σ H => D.nx σ H
def tSeq (t u : TS) : TS := fun D σ H => t { D with nx := u D } σ H
theorem pss_nil : PSs X [] tNext := fun _ _ σ H _ I h => wpAny_execs_nil ⟨σ, H, I, h⟩
theorem pss_cons (h1 : PS X st t) (h2 : PSs X rest u) : PSs X (st :: rest) (tSeq t u) := by
  intro pins s σ H D I h
  refine wpAny_execs_cons (thn (h1 pins s σ H { D with nx := u D } I h) fun f s1 q => ?_)
  cases f with
  | next =>
    obtain ⟨σ', H', I', q⟩ := q
    exact h2 pins s1 σ' H' D I' q
  | ret v => exact q
  | brk => exact q
  | cont => exact q
theorem pss_one (h1 : PS X st t) : PSs X [st] t := by
  intro pins s σ H D I h
  refine wpAny_execs_cons (thn (h1 pins s σ H D I h) fun f s1 q => ?_)
  cases f with
  | next => exact wpAny_execs_nil q
  | ret v => exact q
  | brk => exact q
  | cont => exact q
theorem Inv.quiet {pins : List (Addr × Obj)} {σ : St} {H : Hp} {s : Shared} (I : Inv X pins σ H s) : interactive X.env = false := by simp [interactive, I.ok.kind]
def tDrop (te : TE) : TS := fun D σ H => te σ H fun _ H1 => D.nx σ H1
theorem ps_expr (he : PE X e te) (hs : swapsWith e none pos.line X.env = pure false := by rfl) : PS X (.Expr e pos) (tDrop te) := by
  intro pins s σ H D I h
  exact wpAny_Expr_any (thn (he pins s σ H _ I h) fun v s1 ⟨x, H1, I1, r1, q1⟩ => ⟨σ, H1, I1, q1⟩) I.quiet hs
def tRet (te : TE) : TS := fun D σ H => te σ H D.rt
theorem ps_ret (he : PE X e te) : PS X (.Return (some e) pos) (tRet te) := by
  intro pins s σ H D I h
  exact wpAny_Return_some (thn (he pins s σ H _ I h) fun v s1 ⟨x, H1, I1, r1, q1⟩ => ⟨x, σ, H1, I1, r1, q1⟩)
def tIfS (c : TT) (t u : TS) : TS := fun D σ H => c σ H fun b H1 => if b = true then t D σ H1 else u D σ H1
theorem ps_if {c : Expr} {a b : List Stmt} {tc : TT} (hc : PT X c tc) (ha : PSs X a t) (hb : PSs X b u) : PS X (.If c a b pos) (tIfS tc t u) := by
  intro pins s σ H D I h
  refine wpAny_If (thn (hc pins s σ H _ I h) fun d s1 ⟨H1, I1, q1⟩ => ?_)
  cases d with
  | true => exact ha pins s1 σ H1 D I1 q1
  | false => exact hb pins s1 σ H1 D I1 q1
end
abbrev TG := V -> St -> Hp -> (St -> Hp -> Prop) -> Prop
abbrev TGs := List V -> St -> Hp -> (St -> Hp -> Prop) -> Prop
def PG (X : Cx) (target : Expr) (t : TG) : Prop :=
  ∀ (pins : List (Addr × Obj)) (s : Shared) (σ : St) (H : Hp) (v : V) (u : Value) (Q : St -> Hp -> Prop), Inv X pins σ H s -> RelV v u -> t v σ H Q ->
    wpAny (model X.prog X.w) X.A (assign target X.env u) (fun _ s' => ∃ σ' H', Inv X pins σ' H' s' /\ Q σ' H') X.xe s
def PGs (X : Cx) (ts : List Expr) (t : TGs) : Prop :=
  ∀ (pins : List (Addr × Obj)) (s : Shared) (σ : St) (H : Hp) (vs : List V) (us : List Value) (Q : St -> Hp -> Prop), Inv X pins σ H s -> Vals vs us -> t vs σ H Q ->
    wpAny (model X.prog X.w) X.A (assignInOrder ((assignEach ts X.env).map (·.2)) us) (fun _ s' => ∃ σ' H', Inv X pins σ' H' s' /\ Q σ' H') X.xe s
abbrev TSet := V -> V -> V -> Hp -> (Hp -> Prop) -> Prop
def PSet (X : Cx) (t : TSet) : Prop :=
  ∀ (pins : List (Addr × Obj)) (s : Shared) (σ : St) (H : Hp) (o i v : V) (ov iv u : Value) (Q : Hp -> Prop), Inv X pins σ H s -> RelV o ov -> RelV i iv -> RelV v u -> t o i v H Q ->
    wpAny (model X.prog X.w) X.A (setItem ov iv u) (fun _ s' => ∃ H', Inv X pins σ H' s' /\ Q H') X.xe s
section
variable {X : Cx} {pos : Pos}
def gName (i : Nat) : TG := fun v σ H Q => Q (σ.set i (some v)) H
theorem pg_name {i : Nat} {x : Str} (hN : X.N.Nodup) (hi : X.N[i]? = some x) (hx : Loc X.env.scope x) (hf : X.fn x = true \/ X.env.scope.names.lookup x = some .local := by first | exact .inl rfl | exact .inr rfl | assumption) : PG X (.Name x pos) (gName i) := by
  intro pins s σ H v u Q I r h
  exact wpAny_assign_Name (store_ok I hN hi hx r (fun s' I' => ⟨_, H, I', h⟩) hf)
def gNil : TGs := fun vs σ H Q => vs = [] /\ Q σ H
def gCons (t : TG) (u : TGs) : TGs := fun vs σ H Q => ∃ v r, vs = v :: r /\ t v σ H fun σ' H' => u r σ' H' Q
theorem pgs_nil : PGs X [] gNil := by
  intro pins s σ H vs us Q I r h
  obtain ⟨e, h⟩ := h
  subst e
  cases r
  exact assignInOrder_nil ⟨σ, H, I, h⟩
theorem pgs_cons {e : Expr} {es : List Expr} {t : TG} {u : TGs} (h1 : PG X e t) (h2 : PGs X es u)
    (hs : (assignEach (e :: es) X.env).map (·.2) = assign e X.env :: (assignEach es X.env).map (·.2) := by rfl) : PGs X (e :: es) (gCons t u) := by
  intro pins s σ H vs us Q I r h
  obtain ⟨v, vr, e1, h⟩ := h
  subst e1
  cases r with
  | cons r rr =>
    rw [hs]
    refine assignInOrder_cons (thn (h1 pins s σ H _ _ _ I r h) fun _ s1 ⟨σ1, H1, I1, q1⟩ => ?_)
    exact h2 pins s1 σ1 H1 _ _ Q I1 rr q1
def gTup (K : PySem.W.Frag) (n : Nat) (t : TGs) : TG := fun v σ H Q => ∃ a xs, v = .ref a /\ SqT K H a xs /\ xs.length = n /\ t xs σ H Q
theorem pg_tup {es : List Expr} {k : Nat} {t : TGs} {n : Nat} (hc : X.calm = true) (h : PGs X es t)
    (hn : (assignEach es X.env).length = n := by rfl) (hst : (assignEach es X.env).findIdx? (·.1) = none := by rfl) : PG X (.Tuple es k pos) (gTup X.K n t) := by
  intro pins s σ H v u Q I r hw
  obtain ⟨a, xs, e1, hq, hl, hw⟩ := hw
  subst e1
  cases r
  obtain ⟨its, rv, ht, hz⟩ := I.tuple hq
  refine assign_Tuple_tuple (I.ok.hd hc) ht (by simp [hn, <- hl, rv.length]) hst fun h' hx => ?_
  have I1 : Inv X pins σ H { s with heap := h' } := I.kept (t' := s.toks) fun b o e => hx b o (Nat.ne_of_lt (Heap.lt_size e)) e
  exact h pins _ σ H xs _ Q I1 (by simpa using rv) hw
def gSub (to ti : TE) (t : TSet) : TG := fun v σ H Q => to σ H fun o H1 => ti σ H1 fun i H2 => t o i v H2 fun H3 => Q σ H3
theorem pg_sub {o i : Expr} {to ti : TE} {t : TSet} (ho : PE X o to) (hi : PE X i ti) (hs : PSet X t)
    (ha : ∀ v, assign (.Subscript o i pos) X.env v = (do
      let ov <- holding [v] (eval o X.env)
      let iv <- holding [v, ov] (eval i X.env)
      standAt pos
      holding [v, ov, iv] (setItem ov iv v)
      release [v, ov, iv] []) := by intro _; rfl) : PG X (.Subscript o i pos) (gSub to ti t) := by
  intro pins s σ H v u Q I r h
  rw [ha]
  refine wpAny_bind (wpAny_holding (thn (ho pins s σ H _ I h) fun ov s1 ⟨x, H1, I1, r1, q1⟩ => ?_))
  refine wpAny_bind (wpAny_holding (thn (hi pins s1 σ H1 _ I1 q1) fun iv s2 ⟨y, H2, I2, r2, q2⟩ => ?_))
  refine wpAny_bind (wpAny_standAt (wpAny_bind (wpAny_holding (thn (hs pins s2 σ H2 x y v ov iv u _ I2 r1 r2 r q2) fun _ s3 ⟨H3, I3, q3⟩ => ?_))))
  exact wpAny_release ⟨σ, H3, I3, q3⟩
def tAsg (te : TE) (g : TG) : TS := fun D σ H => te σ H fun x H1 => g x σ H1 D.nx
theorem ps_asg {tg e : Expr} {te : TE} {g : TG} (he : PE X e te) (hg : PG X tg g) (hs : swapsWithSole [tg] e pos.line X.env = pure false := by rfl) (hw : swappedStores [tg] e X.env = pure none := by rfl)
    (h1 : (assignEach [tg] X.env).map (·.2) = [assign tg X.env] := by rfl) : PS X (.Assign [tg] e pos) (tAsg te g) := by
  intro pins s σ H D I h
  refine wpAny_Assign_stores (thn (he pins s σ H _ I h) fun v s1 ⟨x, H1, I1, r1, q1⟩ => ?_) hs hw
  rw [h1]
  exact thn (hg pins s1 σ H1 x v _ I1 r1 q1) fun _ s2 q => q
theorem ps_set {i : Nat} {x : Str} {e : Expr} {te : TE} {pos' : Pos} (hN : X.N.Nodup) (hi : X.N[i]? = some x) (hx : Loc X.env.scope x) (he : PE X e te) (hs : swapsWith e (some (.Name x pos')) pos.line X.env = pure false := by rfl) (hf : X.fn x = true \/ X.env.scope.names.lookup x = some .local := by first | exact .inl rfl | exact .inr rfl | assumption) :
    PS X (.Assign [.Name x pos'] e pos) (tAsg te (gName i)) := by
  intro pins s σ H D I h
  refine wpAny_Assign_Name (thn (he pins s σ H _ I h) fun v s1 ⟨y, H1, I1, r1, q1⟩ => ?_) hs
  exact store_ok I1 hN hi hx r1 (fun s2 I2 => ⟨_, H1, I2, q1⟩) hf
end
structure It where
  go : Nat -> Hp -> Prop
  yld : Nat -> Hp -> V -> Hp -> Prop
  stop : Nat -> Hp -> Prop
def FpOk (X : Cx) (pins : List (Addr × Obj)) (H : Hp) (b : Addr) : Prop :=
  H b = none /\ b ≠ X.env.locals /\ b ∉ X.fs /\ (b ∈ X.ex \/ X.s₀.heap.objs.size <= b) /\ (∀ x c, X.env.cells.lookup x = some c -> c ≠ b) /\ ∀ p ∈ X.pn ++ pins, p.1 ≠ b
theorem Inv.fpOk {X : Cx} {pins : List (Addr × Obj)} {σ : St} {H H' : Hp} {s : Shared} {b : Addr} (I : Inv X pins σ H s) (hb : s.heap.objs.size <= b) (hn : H' b = none) : FpOk X pins H' b := by
  refine ⟨hn, Nat.ne_of_gt (Nat.lt_of_lt_of_le I.lt hb), I.nofs hb, .inr (Nat.le_trans I.sz hb), fun x c e z => ?_, fun p hp z => ?_⟩
  · obtain ⟨v, q⟩ := I.cell x c e
    exact absurd (Nat.lt_of_lt_of_le q.lt (by rw [z]; exact hb)) (Nat.lt_irrefl _)
  · exact absurd (Nat.lt_of_lt_of_le (Heap.lt_size (I.pin p hp).1) (by rw [z]; exact hb)) (Nat.lt_irrefl _)
structure Turn (P : Program) (w : World) (K : PySem.W.Frag) (tg : Expr) (J : It) (fp : List Addr) (it : Addr) (tn : Nat -> Heap -> Prop) : Prop where
  mem : it ∈ fp
  obj : ∀ i h, tn i h -> ∀ b ∈ fp, ∃ o, h.get? b = some o /\ ∀ v, o.data ≠ .cell v
  keep : ∀ i h h', tn i h -> (∀ b ∈ fp, ∀ o, h.get? b = some o -> h'.get? b = some o) -> tn i h'
  item : ∀ (X : Cx), X.prog = P -> X.w = w -> X.K = K -> X.calm = true -> ∀ (i : Nat) (pins : List (Addr × Obj)) (s : Shared) (σ : St) (H : Hp) (E : Value -> Shared -> Prop), Inv X pins σ H s -> (∀ b ∈ fp, FpOk X pins H b) -> tn i s.heap -> J.go i H ->
    wpAny (model P w) X.A (pyNext (.ref it)) (fun r s1 => ∃ u, r = some u /\
      wpAny (model P w) X.A (letOwnedTupleGo tg (.ref it) u) (fun _ s2 => ∃ x H', Inv X pins σ H' s2 /\ RelV x u /\ J.yld i H x H' /\ tn (i + 1) s2.heap /\ ∀ b ∈ fp, H' b = none) E s1) E s
  done : ∀ (X : Cx), X.prog = P -> X.w = w -> X.K = K -> X.calm = true -> ∀ (i : Nat) (pins : List (Addr × Obj)) (s : Shared) (σ : St) (H : Hp) (E : Value -> Shared -> Prop), Inv X pins σ H s -> (∀ b ∈ fp, FpOk X pins H b) -> tn i s.heap -> J.stop i H ->
    wpAny (model P w) X.A (pyNext (.ref it)) (fun r s1 => r = none /\ Inv X pins σ H s1) E s
  self : ∀ (A : Around) (i : Nat) (s : Shared) (Q : Value -> Shared -> Prop) (E : Value -> Shared -> Prop), tn i s.heap -> Q (.ref it) s -> wpAny (model P w) A (pyIter (.ref it)) Q E s
abbrev TI := St -> Hp -> (It -> Hp -> Prop) -> Prop
def PIE (X : Cx) (pins : List (Addr × Obj)) (σ : St) (tg : Expr) (R : It -> Hp -> Prop) (itv : Value) (s2 : Shared) : Prop :=
  ∃ (it : Addr) (fp : List Addr) (tn : Nat -> Heap -> Prop) (J : It) (H' : Hp), itv = .ref it /\ Inv X pins σ H' s2 /\ Turn X.prog X.w X.K tg J fp it tn /\ tn 0 s2.heap /\ (∀ b ∈ fp, FpOk X pins H' b) /\ R J H'
def PI (X : Cx) (tg iter : Expr) (wi : TI) : Prop :=
  ∀ (pins : List (Addr × Obj)) (s : Shared) (σ : St) (H : Hp) (R : It -> Hp -> Prop), Inv X pins σ H s -> wi σ H R ->
    wpAny (model X.prog X.w) X.A (eval iter X.env) (fun v s1 => wpAny (model X.prog X.w) X.A (pyIter v) (PIE X pins σ tg R) X.xe s1) X.xe s
theorem go_of {M : Model} {A : Around} {E : Value -> Shared -> Prop} {s : Shared} {tg : Expr} {it : Addr} {u : Value} {o : Obj} {n : String} {vs : Array Value} {Q : Unit -> Shared -> Prop} (ho : s.heap.get? it = some o) (hc : o.cls = .type n) (hd : o.data = .fields vs)
    (hn : ["enumerate", "zip", "dict_itemiterator", "dict_reverseitemiterator", "odict_iterator", "itertools.zip_longest", "itertools.pairwise"].contains n = false) (hQ : Q () s) : wpAny M A (letOwnedTupleGo tg (.ref it) u) Q E s := by
  unfold letOwnedTupleGo
  cases tg <;> first
    | exact wpAny_pure hQ
    | (cases u <;> first
        | exact wpAny_pure hQ
        | (refine wpAny_bind (wpAny_load ho ?_)
           rw [hc, hd]
           show wpAny M A (if (["enumerate", "zip", "dict_itemiterator", "dict_reverseitemiterator", "odict_iterator", "itertools.zip_longest", "itertools.pairwise"].contains n && vs[0]? == some (rawInt _)) = true then _ else _) Q E s
           rw [if_neg (by intro h; rw [hn, Bool.false_and] at h; cases h)]
           exact wpAny_pure hQ))
def Itl (K : PySem.W.Frag) (a : Addr) : It :=
  ⟨fun i H => ∃ xs x, SqL K H a xs /\ xs[i]? = some x, fun i H x H' => H' = H /\ ∀ xs, SqL K H a xs -> xs[i]? = some x, fun i H => ∃ xs, SqL K H a xs /\ xs.length <= i⟩
def Itt (K : PySem.W.Frag) (a : Addr) : It :=
  ⟨fun i H => ∃ xs x, SqT K H a xs /\ xs[i]? = some x, fun i H x H' => H' = H /\ ∀ xs, SqT K H a xs -> xs[i]? = some x, fun i H => ∃ xs, SqT K H a xs /\ xs.length <= i⟩
def Itr (lo : Int) (n : Nat) : It := ⟨fun i _ => i < n, fun i H x H' => H' = H /\ x = .int (lo + i), fun i _ => n <= i⟩
theorem turn_list {P : Program} {w : World} {K : PySem.W.Frag} {tg : Expr} (a it : Addr) : Turn P w K tg (Itl K a) [it] it (fun i h => h.IsListIter it a i) where
  mem := by simp
  obj := fun i h st b hb => by
    have e : b = it := by simpa using hb
    subst e
    obtain ⟨o, e, c, d⟩ := st
    exact ⟨o, e, fun v z => by rw [d] at z; cases z⟩
  keep := fun i h h' st k => st.at fun o e => k it (by simp) o e
  item := by
    intro X hP hw hK hc i pins s σ H E I hf st hg
    subst hP hw hK
    obtain ⟨xs, x, hq, hx⟩ := hg
    obtain ⟨its, rv, p, hz⟩ := I.list hq
    obtain ⟨u, hu, ru⟩ := rv.get hx
    obtain ⟨f0, f1, f2, f3, f4, f5⟩ := hf it (by simp)
    refine wpAny_pyNext_list_item st p.isList (x := u) (by simpa using hu) fun h' st' sb => ?_
    have I1 : Inv X pins σ H { s with heap := h' } := I.turned (t' := s.toks) (fun b o hb e => (sb.2 b hb).trans e) f0 f1 f3 f4 f5
    obtain ⟨o, e, c, d⟩ := id st'
    exact ⟨u, rfl, go_of (s := { s with heap := h' }) e c d (by decide) ⟨x, H, I1, ru, ⟨rfl, fun ys hy => by rw [I.list_inj hy hq]; exact hx⟩, st', fun b hb => (hf b hb).1⟩⟩
  done := by
    intro X hP hw hK hc i pins s σ H E I hf st hg
    subst hP hw hK
    obtain ⟨xs, hq, hx⟩ := hg
    obtain ⟨its, rv, p, hz⟩ := I.list hq
    obtain ⟨f0, f1, f2, f3, f4, f5⟩ := hf it (by simp)
    have hl := rv.length
    exact wpAny_pyNext_list_end (I.ok.hd hc) st p.isList (by simp; lia) fun h' eb => ⟨rfl, I.turned (t' := s.toks) (fun b o hb e => eb b o hb e) f0 f1 f3 f4 f5⟩
  self := fun _ _ _ _ _ st h => wpAny_pyIter_listiter st h
theorem turn_tuple {P : Program} {w : World} {K : PySem.W.Frag} {tg : Expr} (a it : Addr) : Turn P w K tg (Itt K a) [it] it (fun i h => h.IsTupleIter it a i) where
  mem := by simp
  obj := fun i h st b hb => by
    have e : b = it := by simpa using hb
    subst e
    obtain ⟨o, e, c, d⟩ := st
    exact ⟨o, e, fun v z => by rw [d] at z; cases z⟩
  keep := fun i h h' st k => st.at fun o e => k it (by simp) o e
  item := by
    intro X hP hw hK hc i pins s σ H E I hf st hg
    subst hP hw hK
    obtain ⟨xs, x, hq, hx⟩ := hg
    obtain ⟨its, rv, p, hz⟩ := I.tuple hq
    obtain ⟨u, hu, ru⟩ := rv.get hx
    obtain ⟨f0, f1, f2, f3, f4, f5⟩ := hf it (by simp)
    refine wpAny_pyNext_tuple_item st (show s.heap.IsTuple a its.toArray from p) (x := u) (by simpa using hu) fun h' st' sb => ?_
    have I1 : Inv X pins σ H { s with heap := h' } := I.turned (t' := s.toks) (fun b o hb e => (sb.2 b hb).trans e) f0 f1 f3 f4 f5
    obtain ⟨o, e, c, d⟩ := id st'
    exact ⟨u, rfl, go_of (s := { s with heap := h' }) e c d (by decide) ⟨x, H, I1, ru, ⟨rfl, fun ys hy => by rw [I.tuple_inj hy hq]; exact hx⟩, st', fun b hb => (hf b hb).1⟩⟩
  done := by
    intro X hP hw hK hc i pins s σ H E I hf st hg
    subst hP hw hK
    obtain ⟨xs, hq, hx⟩ := hg
    obtain ⟨its, rv, p, hz⟩ := I.tuple hq
    obtain ⟨f0, f1, f2, f3, f4, f5⟩ := hf it (by simp)
    have hl := rv.length
    exact wpAny_pyNext_tuple_end (I.ok.hd hc) st (show s.heap.IsTuple a its.toArray from p) (by simp; lia) fun h' eb => ⟨rfl, I.turned (t' := s.toks) (fun b o hb e => eb b o hb e) f0 f1 f3 f4 f5⟩
  self := fun _ _ _ _ _ st h => wpAny_pyIter_tupleiter st h
theorem turn_range {P : Program} {w : World} {K : PySem.W.Frag} {tg : Expr} (it : Addr) (lo : Int) (n : Nat) : Turn P w K tg (Itr lo n) [it] it (fun i h => IsRangeIter h it (lo + (i : Nat) * 1) ((n : Int) - (i : Nat)) 1) where
  mem := by simp
  obj := fun i h st b hb => by
    have e : b = it := by simpa using hb
    subst e
    exact ⟨_, st, fun v z => by
      have z' : Data.fields _ = Data.cell v := z
      cases z'⟩
  keep := fun i h h' st k => k it (by simp) _ st
  item := by
    intro X hP hw hK hc i pins s σ H E I hf st hg
    subst hP hw hK
    obtain ⟨f0, f1, f2, f3, f4, f5⟩ := hf it (by simp)
    have W := Walks.range (prog := X.prog) (w := X.w) (I.ok.hd hc) it lo 1 n
    refine W.item i s _ _ hg st fun v h' tk hv st' kk => ?_
    obtain ⟨t, rfl⟩ := hv
    have I1 : Inv X pins σ H { s with heap := h', toks := tk } := I.turned (fun b o hb e => kk b o (by simpa using hb) e) f0 f1 f3 f4 f5
    refine ⟨_, rfl, go_of (s := { s with heap := h', toks := tk }) (n := "range_iterator") st' rfl rfl (by decide) ⟨.int (lo + i), H, I1, ⟨t, ?_⟩, ⟨rfl, rfl⟩, st', fun b hb => (hf b hb).1⟩⟩
    rw [Int.mul_one]
  done := by
    intro X hP hw hK hc i pins s σ H E I hf st hg
    subst hP hw hK
    obtain ⟨f0, f1, f2, f3, f4, f5⟩ := hf it (by simp)
    exact wpAny_pyNext_range_end (I.ok.hd hc) st (by have : n <= i := hg; lia) fun h' eb => ⟨rfl, I.turned (t' := s.toks) (fun b o hb e => eb b o hb e) f0 f1 f3 f4 f5⟩
  self := fun _ _ _ _ _ st h => wpAny_pyIter_rangeiter st h
section
variable {X : Cx} {tg : Expr}
def iList (K : PySem.W.Frag) (tl : TE) : TI := fun σ H R => tl σ H fun x H1 => ∃ a, x = .ref a /\ (∃ xs, SqL K H1 a xs) /\ R (Itl K a) H1
def iTup (K : PySem.W.Frag) (tl : TE) : TI := fun σ H R => tl σ H fun x H1 => ∃ a, x = .ref a /\ (∃ xs, SqT K H1 a xs) /\ R (Itt K a) H1
theorem pi_list {l : Expr} {tl : TE} (hl : PE X l tl) : PI X tg l (iList X.K tl) := by
  intro pins s σ H R I h
  refine thn (hl pins s σ H _ I h) fun v s1 ⟨x, H1, I1, r1, q1⟩ => ?_
  obtain ⟨a, e, ⟨xs, hq⟩, q⟩ := q1
  subst e
  cases r1
  obtain ⟨its, rv, p, hz⟩ := I1.list hq
  refine wpAny_pyIter_list p.isList ?_
  refine ⟨s1.heap.objs.size, [s1.heap.objs.size], _, _, H1, rfl, I1.kept (t' := s1.toks) fun b o e => Heap.get?_push_of_some _ e, turn_list a _, ⟨_, Heap.get?_push_size _ rfl, rfl, rfl⟩, fun b hb => ?_, q⟩
  have e : b = s1.heap.objs.size := by simpa using hb
  subst e
  exact I1.fpOk (Nat.le_refl _) (I1.hok.fresh (Nat.le_refl _))
theorem pi_tup {l : Expr} {tl : TE} (hl : PE X l tl) : PI X tg l (iTup X.K tl) := by
  intro pins s σ H R I h
  refine thn (hl pins s σ H _ I h) fun v s1 ⟨x, H1, I1, r1, q1⟩ => ?_
  obtain ⟨a, e, ⟨xs, hq⟩, q⟩ := q1
  subst e
  cases r1
  obtain ⟨its, rv, p, hz⟩ := I1.tuple hq
  refine wpAny_pyIter_tuple (show s1.heap.IsTuple a its.toArray from p) ?_
  refine ⟨s1.heap.objs.size, [s1.heap.objs.size], _, _, H1, rfl, I1.kept (t' := s1.toks) fun b o e => Heap.get?_push_of_some _ e, turn_tuple a _, ⟨_, Heap.get?_push_size _ rfl, rfl, rfl⟩, fun b hb => ?_, q⟩
  have e : b = s1.heap.objs.size := by simpa using hb
  subst e
  exact I1.fpOk (Nat.le_refl _) (I1.hok.fresh (Nat.le_refl _))
theorem range_it {pins : List (Addr × Obj)} {σ : St} {H : Hp} {s : Shared} {R : It -> Hp -> Prop} {E : Value -> Shared -> Prop} {lo hi : Int} {t u v : Tok} {tk : Nat} (I : Inv X pins σ H s) (h1 : -(2 ^ 62) <= lo) (h2 : lo < 2 ^ 62) (h3 : -(2 ^ 62) <= hi) (h4 : hi < 2 ^ 62)
    (q : R (Itr lo (hi - lo).toNat) H) : wpAny (model X.prog X.w) X.A (pyIter (.ref s.heap.objs.size)) (PIE X pins σ tg R) E { s with heap := s.heap.push { cls := .type "range", data := .fields #[.int lo t, .int hi u, .int 1 v] }, toks := tk } := by
  refine wpAny_pyIter_range (IsRange.new ..) (small_one h1 h2 h3 h4) ?_
  have I1 : Inv X pins σ H { s with heap := s.heap.push { cls := .type "range", data := .fields #[.int lo t, .int hi u, .int 1 v] }, toks := tk } := I.kept fun b o e => Heap.get?_push_of_some _ e
  refine ⟨(s.heap.push { cls := .type "range", data := .fields #[.int lo t, .int hi u, .int 1 v] }).objs.size, [(s.heap.push { cls := .type "range", data := .fields #[.int lo t, .int hi u, .int 1 v] }).objs.size], _, _, H, rfl,
    I1.kept (t' := tk) fun b o e => Heap.get?_push_of_some _ e, turn_range _ lo (hi - lo).toNat, ?_, fun b hb => ?_, q⟩
  · have e1 : lo + ((0 : Nat) : Int) * 1 = lo := by simp
    have e2 : (((hi - lo).toNat : Nat) : Int) - ((0 : Nat) : Int) = Builtin.Range.rangeSize lo hi 1 := by rw [rangeSize_one]; split <;> lia
    show IsRangeIter _ _ (lo + ((0 : Nat) : Int) * 1) ((((hi - lo).toNat : Nat) : Int) - ((0 : Nat) : Int)) 1
    rw [e1, e2]
    exact Heap.get?_push_size _ rfl
  · have e : b = (s.heap.push { cls := .type "range", data := .fields #[.int lo t, .int hi u, .int 1 v] }).objs.size := by simpa using hb
    subst e
    exact I1.fpOk (Nat.le_refl _) (I1.hok.fresh (Nat.le_refl _))
def iRng1 (ta : TA) : TI := fun σ H R => ta σ H fun vs H1 => ∃ j : Int, vs = [.int j] /\ -(2 ^ 62) <= j /\ j < 2 ^ 62 /\ R (Itr 0 j.toNat) H1
theorem pi_range1 {a : Expr} {ta : TA} {p pos : Pos} (hg : Gl X "range") (hm : X.mg "range" = none) (ha : PA X [a] ta) (hs : starEach [a] X.env = [(false, eval a X.env)] := by rfl) : PI X tg (.Call (.Name "range" p) [a] [] pos) (iRng1 ta) := by
  intro pins s σ H R I h
  refine Call_ (ld_blt I hg hm boot_range (PyProof.Rows.callWith_type1 (thn (ha pos pins s σ H _ I h) fun us s1 ⟨vs, H1, I1, r1, q1⟩ => ?_) hs rfl))
  obtain ⟨j, e, q1, q2, q⟩ := q1
  subst e
  cases r1 with
  | cons r rr =>
    cases rr
    obtain ⟨t, rfl⟩ := r
    exact call_range_1 (range_it I1 (by lia) (by lia) q1 q2 (by simpa using q))
def tFor (wi : TI) (g : TG) (tb : TS) : TS := fun D σ H => wi σ H fun J H1 => ∃ W : Nat -> Nat -> St -> Hp -> Prop, (∃ m, W 0 m σ H1) /\ ∀ i m σ H, W i m σ H ->
  (J.stop i H /\ D.nx σ H) \/ (J.go i H /\ ∃ N : St -> Hp -> Prop, (∀ σ' H', N σ' H' -> ∃ m', m' < m /\ W (i + 1) m' σ' H') /\ ∀ x H', J.yld i H x H' -> g x σ H' fun σ2 H2 => tb { D with nx := N, ct := N, bk := D.nx } σ2 H2)
def pinsAt (fp : List Addr) (h : Heap) : List (Addr × Obj) := fp.filterMap fun b => (h.get? b).map fun o => (b, o)
theorem mem_pinsAt {fp : List Addr} {h : Heap} {b : Addr} {o : Obj} (hb : b ∈ fp) (e : h.get? b = some o) : (b, o) ∈ pinsAt fp h := List.mem_filterMap.mpr ⟨b, hb, by rw [e]; rfl⟩
theorem of_pinsAt {fp : List Addr} {h : Heap} {p : Addr × Obj} (hp : p ∈ pinsAt fp h) : p.1 ∈ fp /\ h.get? p.1 = some p.2 := by
  obtain ⟨b, hb, e⟩ := List.mem_filterMap.mp hp
  cases q : h.get? b with
  | none => rw [q] at e; cases e
  | some o =>
    rw [q] at e
    have e' : (b, o) = p := Option.some.inj e
    subst e'
    exact ⟨hb, q⟩
theorem Inv.pinned {pins : List (Addr × Obj)} {σ : St} {H : Hp} {s : Shared} {fp : List Addr} (I : Inv X pins σ H s) (hf : ∀ b ∈ fp, FpOk X pins H b) (ho : ∀ b ∈ fp, ∃ o, s.heap.get? b = some o /\ ∀ v, o.data ≠ .cell v) : Inv X (pins ++ pinsAt fp s.heap) σ H s :=
  I.pins_of fun p hp => (List.mem_append.mp hp).elim (fun z => I.pin p (List.mem_append_right _ z)) fun z => by
    obtain ⟨hb, e⟩ := of_pinsAt z
    obtain ⟨f0, f1, f2, _⟩ := hf p.1 hb
    obtain ⟨o, e', d⟩ := ho p.1 hb
    rw [e] at e'; cases e'
    exact ⟨e, f0, f1, f2, d⟩
theorem Inv.unpinned {pins pl : List (Addr × Obj)} {σ : St} {H : Hp} {s : Shared} (I : Inv X (pins ++ pl) σ H s) : Inv X pins σ H s := I.pins_of fun p hp => I.pin p (List.mem_append_right _ (List.mem_append_left _ hp))
theorem ps_for {iter : Expr} {body : List Stmt} {wi : TI} {g : TG} {tb : TS} {pos : Pos} (hp : PassesOwn (model X.prog X.w) X.A X.env X.xe) (hc : X.calm = true) (hi : PI X tg iter wi) (hg : PG X tg g) (hb : PSs X body tb)
    (hs : ∀ x, foldedSetIterable iter X.env x = pure x := by intro _; rfl) : PS X (.For tg iter body [] pos) (tFor wi g tb) := by
  intro pins s σ H D I h
  refine wpAny_For (thn (hi pins s σ H _ I h) fun v s1 h1 => thn h1 fun itv s2 h2 => ?_) hs
  obtain ⟨it, fp, tn, J, H2, e, I2, T, st2, f2, W, ⟨m0, w0⟩, turn⟩ := h2
  subst e
  have stat : ∀ {H' : Hp}, (∀ b ∈ fp, H' b = none) -> ∀ b ∈ fp, FpOk X pins H' b := fun hn b hb => ⟨hn b hb, (f2 b hb).2⟩
  refine codeAny_forLoop_any (fun n s' => ∃ i σ' H', Inv X pins σ' H' s' /\ tn i s'.heap /\ (∀ b ∈ fp, H' b = none) /\ W i n σ' H') ?_ m0 ⟨0, σ, H2, I2, st2, fun b hb => (f2 b hb).1, w0⟩
  rintro n s3 ⟨i, σ3, H3, I3, st3, fr3, w3⟩
  rcases turn i n σ3 H3 w3 with ⟨stop, qn⟩ | ⟨go, N, hN, step⟩
  · refine wpAny_passesOwn hp (thn (T.done X rfl rfl rfl hc i pins s3 σ3 H3 X.xe I3 (stat fr3) st3 stop) fun r s4 ⟨hr, I4⟩ => ?_)
    subst hr
    exact wpAny_execs_nil ⟨σ3, H3, I4, qn⟩
  · refine wpAny_passesOwn hp (thn (T.item X rfl rfl rfl hc i pins s3 σ3 H3 X.xe I3 (stat fr3) st3 go) fun r s4 ⟨u, hr, h4⟩ => ?_)
    subst hr
    refine wpAny_passesOwn hp (thn h4 fun _ s5 ⟨x, H5, I5, r5, y5, st5, fr5⟩ => ?_)
    have I5' := I5.pinned (stat fr5) (T.obj _ _ st5)
    refine wpAny_passesOwn hp (thn (hg _ s5 σ3 H5 x u _ I5' r5 (step x H5 y5)) fun _ s6 ⟨σ6, H6, I6, q6⟩ => ?_)
    refine wpAny_passesOwn hp (thn (hb _ s6 σ6 H6 _ I6 q6) fun f s7 q7 => ?_)
    have again : ∀ {σ7 : St} {H7 : Hp}, Inv X (pins ++ pinsAt fp s5.heap) σ7 H7 s7 -> N σ7 H7 -> ∃ m, m < n /\ ∃ i σ' H', Inv X pins σ' H' s7 /\ tn i s7.heap /\ (∀ b ∈ fp, H' b = none) /\ W i m σ' H' := fun {σ7 H7} I7 n7 => by
      obtain ⟨m', hm, w7⟩ := hN σ7 H7 n7
      refine ⟨m', hm, i + 1, σ7, H7, I7.unpinned, T.keep _ _ _ st5 fun b hb o e => (I7.pin (b, o) (List.mem_append_right _ (List.mem_append_right _ (mem_pinsAt hb e)))).1, fun b hb => ?_, w7⟩
      obtain ⟨o, e, d⟩ := T.obj _ _ st5 b hb
      exact (I7.pin (b, o) (List.mem_append_right _ (List.mem_append_right _ (mem_pinsAt hb e)))).2.1
    cases f with
    | next => obtain ⟨σ7, H7, I7, n7⟩ := q7; exact again I7 n7
    | cont => obtain ⟨σ7, H7, I7, n7⟩ := q7; exact again I7 n7
    | brk => obtain ⟨σ7, H7, I7, q7⟩ := q7; exact ⟨σ7, H7, I7.unpinned, q7⟩
    | ret v => obtain ⟨x7, σ7, H7, I7, r7, q7⟩ := q7; exact ⟨x7, σ7, H7, I7.unpinned, r7, q7⟩
end
theorem for_list {K : PySem.W.Frag} {a : Addr} {xs : List V} {g : TG} {tb : TS} {D : Ends} {σ : St} {H : Hp} (Pv : Nat -> St -> Hp -> Prop) (h0 : Pv 0 σ H) (hl : ∀ i σ H, i <= xs.length -> Pv i σ H -> SqL K H a xs)
    (hs : ∀ i x σ H, xs[i]? = some x -> Pv i σ H -> g x σ H fun σ2 H2 => tb { D with nx := Pv (i + 1), ct := Pv (i + 1), bk := D.nx } σ2 H2) (hd : ∀ σ H, Pv xs.length σ H -> D.nx σ H) :
    ∃ W : Nat -> Nat -> St -> Hp -> Prop, (∃ m, W 0 m σ H) /\ ∀ i m σ H, W i m σ H ->
      ((Itl K a).stop i H /\ D.nx σ H) \/ ((Itl K a).go i H /\ ∃ N : St -> Hp -> Prop, (∀ σ' H', N σ' H' -> ∃ m', m' < m /\ W (i + 1) m' σ' H') /\ ∀ x H', (Itl K a).yld i H x H' -> g x σ H' fun σ2 H2 => tb { D with nx := N, ct := N, bk := D.nx } σ2 H2) := by
  refine ⟨fun i m σ H => m = xs.length - i /\ i <= xs.length /\ Pv i σ H, ⟨xs.length, by simp, Nat.zero_le _, h0⟩, ?_⟩
  rintro i m σ H ⟨rfl, hi, p⟩
  have q := hl i σ H hi p
  by_cases hlt : i < xs.length
  · refine .inr ⟨⟨xs, xs[i], q, by simp [hlt]⟩, Pv (i + 1), fun σ' H' p' => ⟨xs.length - (i + 1), by lia, rfl, hlt, p'⟩, fun x H' y => ?_⟩
    obtain ⟨e, y⟩ := y
    subst e
    exact hs i x σ _ (y xs q) p
  · have e : i = xs.length := by lia
    subst e
    exact .inl ⟨⟨xs, q, Nat.le_refl _⟩, hd σ H p⟩
theorem for_tup {K : PySem.W.Frag} {a : Addr} {xs : List V} {g : TG} {tb : TS} {D : Ends} {σ : St} {H : Hp} (Pv : Nat -> St -> Hp -> Prop) (h0 : Pv 0 σ H) (hl : ∀ i σ H, i <= xs.length -> Pv i σ H -> SqT K H a xs)
    (hs : ∀ i x σ H, xs[i]? = some x -> Pv i σ H -> g x σ H fun σ2 H2 => tb { D with nx := Pv (i + 1), ct := Pv (i + 1), bk := D.nx } σ2 H2) (hd : ∀ σ H, Pv xs.length σ H -> D.nx σ H) :
    ∃ W : Nat -> Nat -> St -> Hp -> Prop, (∃ m, W 0 m σ H) /\ ∀ i m σ H, W i m σ H ->
      ((Itt K a).stop i H /\ D.nx σ H) \/ ((Itt K a).go i H /\ ∃ N : St -> Hp -> Prop, (∀ σ' H', N σ' H' -> ∃ m', m' < m /\ W (i + 1) m' σ' H') /\ ∀ x H', (Itt K a).yld i H x H' -> g x σ H' fun σ2 H2 => tb { D with nx := N, ct := N, bk := D.nx } σ2 H2) := by
  refine ⟨fun i m σ H => m = xs.length - i /\ i <= xs.length /\ Pv i σ H, ⟨xs.length, by simp, Nat.zero_le _, h0⟩, ?_⟩
  rintro i m σ H ⟨rfl, hi, p⟩
  have q := hl i σ H hi p
  by_cases hlt : i < xs.length
  · refine .inr ⟨⟨xs, xs[i], q, by simp [hlt]⟩, Pv (i + 1), fun σ' H' p' => ⟨xs.length - (i + 1), by lia, rfl, hlt, p'⟩, fun x H' y => ?_⟩
    obtain ⟨e, y⟩ := y
    subst e
    exact hs i x σ _ (y xs q) p
  · have e : i = xs.length := by lia
    subst e
    exact .inl ⟨⟨xs, q, Nat.le_refl _⟩, hd σ H p⟩
theorem for_range {lo : Int} {n : Nat} {g : TG} {tb : TS} {D : Ends} {σ : St} {H : Hp} (Pv : Nat -> St -> Hp -> Prop) (h0 : Pv 0 σ H)
    (hs : ∀ i σ H, i < n -> Pv i σ H -> g (.int (lo + i)) σ H fun σ2 H2 => tb { D with nx := Pv (i + 1), ct := Pv (i + 1), bk := D.nx } σ2 H2) (hd : ∀ σ H, Pv n σ H -> D.nx σ H) :
    ∃ W : Nat -> Nat -> St -> Hp -> Prop, (∃ m, W 0 m σ H) /\ ∀ i m σ H, W i m σ H ->
      ((Itr lo n).stop i H /\ D.nx σ H) \/ ((Itr lo n).go i H /\ ∃ N : St -> Hp -> Prop, (∀ σ' H', N σ' H' -> ∃ m', m' < m /\ W (i + 1) m' σ' H') /\ ∀ x H', (Itr lo n).yld i H x H' -> g x σ H' fun σ2 H2 => tb { D with nx := N, ct := N, bk := D.nx } σ2 H2) := by
  refine ⟨fun i m σ H => m = n - i /\ i <= n /\ Pv i σ H, ⟨n, by simp, Nat.zero_le _, h0⟩, ?_⟩
  rintro i m σ H ⟨rfl, hi, p⟩
  by_cases hlt : i < n
  · refine .inr ⟨hlt, Pv (i + 1), fun σ' H' p' => ⟨n - (i + 1), by lia, rfl, hlt, p'⟩, fun x H' y => ?_⟩
    obtain ⟨e, y⟩ := y
    subst e y
    exact hs i σ _ hlt p
  · have e : i = n := by lia
    subst e
    exact .inl ⟨Nat.le_refl _, hd σ H p⟩
abbrev R2 := V -> V -> Hp -> VK -> Prop
def OpR (X : Cx) (f : Value -> Value -> Sem Value) (r : R2) : Prop :=
  ∀ (pins : List (Addr × Obj)) (s : Shared) (σ : St) (H : Hp) (x y : V) (v u : Value) (Q : VK), Inv X pins σ H s -> RelV x v -> RelV y u -> r x y H Q ->
    wpAny (model X.prog X.w) X.A (f v u) (EP X pins σ Q) X.xe s
def UnR (X : Cx) (f : Value -> Sem Value) (r : V -> Hp -> VK -> Prop) : Prop :=
  ∀ (pins : List (Addr × Obj)) (s : Shared) (σ : St) (H : Hp) (x : V) (v : Value) (Q : VK), Inv X pins σ H s -> RelV x v -> r x H Q ->
    wpAny (model X.prog X.w) X.A (f v) (EP X pins σ Q) X.xe s
def CallR (X : Cx) (f : Value) (r : List V -> Hp -> VK -> Prop) : Prop :=
  ∀ (pins : List (Addr × Obj)) (s : Shared) (σ : St) (H : Hp) (xs : List V) (us : List Value) (Q : VK), Inv X pins σ H s -> Vals xs us -> r xs H Q ->
    wpAny (model X.prog X.w) X.A (call f us) (EP X pins σ Q) X.xe s
def tOp (r : R2) (ta tb : TE) : TE := fun σ H Q => ta σ H fun x H1 => tb σ H1 fun y H2 => r x y H2 Q
def tUn (r : V -> Hp -> VK -> Prop) (ta : TE) : TE := fun σ H Q => ta σ H fun x H1 => r x H1 Q
def rI (C : Int -> Int -> Prop) (g : Int -> Int -> V) : R2 := fun x y H Q => ∃ i j, x = .int i /\ y = .int j /\ C i j /\ Q (g i j) H
def rI0 (g : Int -> Int -> V) : R2 := fun x y H Q => ∃ i j, x = .int i /\ y = .int j /\ Q (g i j) H
def rU (g : Int -> V) : V -> Hp -> VK -> Prop := fun x H Q => ∃ i, x = .int i /\ Q (g i) H
section
variable {X : Cx} {a b c : Expr} {ta tb tc : TE} {pos : Pos}
theorem binT (ha : PE X a ta) (hb : PE X b tb) {pins : List (Addr × Obj)} {s : Shared} {σ : St} {H : Hp} {R : V -> V -> Hp -> Prop} (I : Inv X pins σ H s)
    (h : ta σ H fun x H1 => tb σ H1 fun y H2 => R x y H2) {Q : Value -> Shared -> Prop} {f : Value -> Value -> Sem Value}
    (hf : ∀ v u s2 x y H2, Inv X pins σ H2 s2 -> RelV x v -> RelV y u -> R x y H2 -> wpAny (model X.prog X.w) X.A (f v u) Q X.xe s2) :
    wpAny (model X.prog X.w) X.A (eval a X.env) (fun v s₁ => wpAny (model X.prog X.w) X.A (eval b X.env) (fun u s₂ => wpAny (model X.prog X.w) X.A (f v u) Q X.xe s₂) X.xe s₁) X.xe s := by
  refine thn (ha pins s σ H _ I h) fun v s1 ⟨x, H1, I1, r1, q1⟩ => ?_
  refine thn (hb pins s1 σ H1 _ I1 q1) fun u s2 ⟨y, H2, I2, r2, q2⟩ => ?_
  exact hf v u s2 x y H2 I2 r1 r2 q2
theorem pe_op {op : Operator} {r : R2} (ho : OpR X (binaryOp op) r) (ha : PE X a ta) (hb : PE X b tb) : PE X (.BinOp a op b pos) (tOp r ta tb) := by
  intro pins s σ H Q I h
  exact wpAny_BinOp (binT ha hb I h fun v u s2 x y H2 I2 rx ry q => ho pins s2 σ H2 x y v u Q I2 rx ry q)
theorem pe_un {op : UnaryOp} {r : V -> Hp -> VK -> Prop} (ho : UnR X (unaryOp op) r) (ha : PE X a ta) : PE X (.UnaryOp op a pos) (tUn r ta) := by
  intro pins s σ H Q I h
  exact UnaryOp_ (thn (ha pins s σ H _ I h) fun v s1 ⟨x, H1, I1, r1, q1⟩ => ho pins s1 σ H1 x v Q I1 r1 q1)
theorem opI {f : Value -> Value -> Sem Value} {C : Int -> Int -> Prop} {g : Int -> Int -> Int}
    (rule : ∀ (i j : Int) (t u : Tok) (s : Shared) (Q : Value -> Shared -> Prop) (E : Value -> Shared -> Prop), C i j -> Q (.int (g i j) s.toks) { s with toks := s.toks + 1 } -> wpAny (model X.prog X.w) X.A (f (.int i t) (.int j u)) Q E s) :
    OpR X f (rI C fun i j => .int (g i j)) := by
  intro pins s σ H x y v u Q I rx ry h
  obtain ⟨i, j, rfl, rfl, hc, q⟩ := h
  obtain ⟨t, rfl⟩ := rx
  obtain ⟨t', rfl⟩ := ry
  exact rule i j t t' s _ _ hc ⟨.int (g i j), H, I.tok _, ⟨_, rfl⟩, q⟩
theorem opI0 {f : Value -> Value -> Sem Value} {g : Int -> Int -> Int}
    (rule : ∀ (i j : Int) (t u : Tok) (s : Shared) (Q : Value -> Shared -> Prop) (E : Value -> Shared -> Prop), Q (.int (g i j) s.toks) { s with toks := s.toks + 1 } -> wpAny (model X.prog X.w) X.A (f (.int i t) (.int j u)) Q E s) :
    OpR X f (rI0 fun i j => .int (g i j)) := by
  intro pins s σ H x y v u Q I rx ry h
  obtain ⟨i, j, rfl, rfl, q⟩ := h
  obtain ⟨t, rfl⟩ := rx
  obtain ⟨t', rfl⟩ := ry
  exact rule i j t t' s _ _ ⟨.int (g i j), H, I.tok _, ⟨_, rfl⟩, q⟩
theorem opB0 {f : Value -> Value -> Sem Value} {g : Int -> Int -> Bool}
    (rule : ∀ (i j : Int) (t u : Tok) (s : Shared) (Q : Value -> Shared -> Prop) (E : Value -> Shared -> Prop), Q (.bool (g i j)) s -> wpAny (model X.prog X.w) X.A (f (.int i t) (.int j u)) Q E s) :
    OpR X f (rI0 fun i j => .bl (g i j)) := by
  intro pins s σ H x y v u Q I rx ry h
  obtain ⟨i, j, rfl, rfl, q⟩ := h
  obtain ⟨t, rfl⟩ := rx
  obtain ⟨t', rfl⟩ := ry
  exact rule i j t t' s _ _ ⟨.bl (g i j), H, I, rfl, q⟩
def CDiv (i j : Int) : Prop := 0 < j /\ j < 1073741824
def CPow (i j : Int) : Prop := 0 <= j /\ j <= 1000000 /\ i.natAbs < 2 ^ 64
theorem op_add : OpR X (binaryOp .Add) (rI0 fun i j => .int (i + j)) := opI0 fun _ _ _ _ _ _ _ q => add_int q
theorem op_sub : OpR X (binaryOp .Sub) (rI0 fun i j => .int (i - j)) := opI0 fun _ _ _ _ _ _ _ q => sub_int q
theorem op_fdiv : OpR X (binaryOp .FloorDiv) (rI CDiv fun i j => .int (i / j)) := opI fun i j _ _ _ _ _ hc q => by
  have h1 : (0 : Int) < j := hc.1
  have h2 : j < 1073741824 := hc.2
  exact floordiv_int (by lia) (by rw [Int.fdiv_eq_ediv_of_nonneg i (by lia)]; exact q) (.inl (PyProof.noPylong_small (by lia)))
theorem op_mod : OpR X (binaryOp .Mod) (rI (fun _ j => 0 < j) fun i j => .int (i % j)) := opI fun i j _ _ _ _ _ hc q => by
  have h1 : (0 : Int) < j := hc
  exact mod_int' (by lia) (by rw [Int.fmod_eq_emod_of_nonneg i (by lia)]; exact q)
theorem op_pow : OpR X (binaryOp .Pow) (rI CPow fun i j => .int (i ^ j.toNat)) := opI fun _ _ _ _ _ _ _ hc q => pow_int_small hc.1 hc.2.1 hc.2.2 q
theorem unI {f : Value -> Sem Value} {g : Int -> Int}
    (rule : ∀ (i : Int) (t : Tok) (s : Shared) (Q : Value -> Shared -> Prop) (E : Value -> Shared -> Prop), Q (.int (g i) s.toks) { s with toks := s.toks + 1 } -> wpAny (model X.prog X.w) X.A (f (.int i t)) Q E s) :
    UnR X f (rU fun i => .int (g i)) := by
  intro pins s σ H x v Q I rx h
  obtain ⟨i, rfl, q⟩ := h
  obtain ⟨t, rfl⟩ := rx
  exact rule i t s _ _ ⟨.int (g i), H, I.tok _, ⟨_, rfl⟩, q⟩
theorem un_neg : UnR X (unaryOp .USub) (rU fun i => .int (-i)) := unI fun _ _ _ _ _ q => neg_int q
end
def scal : V -> V -> Bool
  | .non, .non => true | .non, .int _ => true | .int _, .non => true | .non, .bl _ => true | .bl _, .non => true | .non, .str _ => true | .str _, .non => true
  | .int _, .int _ => true | .bl _, .bl _ => true | .str _, .str _ => true | .byt _, .byt _ => true
  | .int _, .str _ => true | .str _, .int _ => true | .bl _, .str _ => true | .str _, .bl _ => true
  | _, _ => false
def rEq : R2 := fun x y H Q => scal x y = true /\ Q (.bl (decide (x = y))) H
def rNe : R2 := fun x y H Q => scal x y = true /\ Q (.bl (!decide (x = y))) H
theorem dec_int {i j : Int} : decide (V.int i = V.int j) = (i == j) := by
  rw [Bool.eq_iff_iff]
  simp
theorem dec_bl {i j : Bool} : decide (V.bl i = V.bl j) = (i == j) := by
  rw [Bool.eq_iff_iff]
  simp
theorem dec_str {i j : Str} : decide (V.str i = V.str j) = (i == j) := by
  rw [Bool.eq_iff_iff]
  simp
theorem dec_byt {i j : Array UInt8} : decide (V.byt i = V.byt j) = (i.toList == j.toList) := by
  rw [Bool.eq_iff_iff]
  cases i
  cases j
  simp
section
variable {X : Cx} {a b c : Expr} {ta tb tc : TE} {pos : Pos}
theorem fin_bl {pins : List (Addr × Obj)} {σ : St} {H : Hp} {s : Shared} {Q : VK} {k k' : Bool} (I : Inv X pins σ H s) (q : Q (.bl k) H) (e : k = k') : EP X pins σ Q (.bool k') s := by
  subst e
  exact ⟨.bl k, H, I, rfl, q⟩
theorem op_eq : OpR X (compareOp .Eq) rEq := by
  intro pins s σ H x y v u Q I rx ry h
  obtain ⟨hs, q⟩ := h
  cases x with
  | non =>
    cases rx
    cases y with
    | non => cases ry; exact PySem.EqNone.eq_none_none (fin_bl I q (by simp))
    | bl j => cases ry; exact PySem.EqNone.eq_none_bool (fin_bl I q (by simp))
    | int j => obtain ⟨t', rfl⟩ := ry; exact PySem.EqNone.eq_none_int (fin_bl I q (by simp))
    | str j => obtain ⟨t', rfl⟩ := ry; exact PySem.EqNone.eq_none_str (fin_bl I q (by simp))
    | _ => exact absurd (show false = true from hs) Bool.false_ne_true
  | bl i =>
    cases rx
    cases y with
    | non => cases ry; exact PySem.EqNone.eq_bool_none (fin_bl I q (by simp))
    | bl j => cases ry; exact eq_bool (fin_bl I q dec_bl)
    | str j => obtain ⟨t', rfl⟩ := ry; exact PySem.EqMixed.eq_bool_str (fin_bl I q (by simp))
    | _ => exact absurd (show false = true from hs) Bool.false_ne_true
  | int i =>
    obtain ⟨t, rfl⟩ := rx
    cases y with
    | non => cases ry; exact PySem.EqNone.eq_int_none (fin_bl I q (by simp))
    | int j => obtain ⟨t', rfl⟩ := ry; exact eq_int (fin_bl I q dec_int)
    | str j => obtain ⟨t', rfl⟩ := ry; exact PySem.EqMixed.eq_int_str (fin_bl I q (by simp))
    | _ => exact absurd (show false = true from hs) Bool.false_ne_true
  | str i =>
    obtain ⟨t, rfl⟩ := rx
    cases y with
    | non => cases ry; exact PySem.EqNone.eq_str_none (fin_bl I q (by simp))
    | bl j => cases ry; exact PySem.EqMixed.eq_str_bool (fin_bl I q (by simp))
    | int j => obtain ⟨t', rfl⟩ := ry; exact PySem.EqMixed.eq_str_int (fin_bl I q (by simp))
    | str j => obtain ⟨t', rfl⟩ := ry; exact eq_str (fin_bl I q dec_str)
    | _ => exact absurd (show false = true from hs) Bool.false_ne_true
  | byt i =>
    obtain ⟨t, rfl⟩ := rx
    cases y with
    | byt j => obtain ⟨t', rfl⟩ := ry; exact PySem.W.eq_bytes (fin_bl I q dec_byt)
    | _ => exact absurd (show false = true from hs) Bool.false_ne_true
  | _ => cases y <;> exact absurd (show false = true from hs) Bool.false_ne_true
theorem op_ne : OpR X (compareOp .NotEq) rNe := by
  intro pins s σ H x y v u Q I rx ry h
  obtain ⟨hs, q⟩ := h
  cases x with
  | non =>
    cases rx
    cases y with
    | non => cases ry; exact PySem.EqNone.ne_none_none (fin_bl I q (by simp))
    | bl j => cases ry; exact PySem.EqNone.ne_none_bool (fin_bl I q (by simp))
    | int j => obtain ⟨t', rfl⟩ := ry; exact PySem.EqNone.ne_none_int (fin_bl I q (by simp))
    | str j => obtain ⟨t', rfl⟩ := ry; exact PySem.EqNone.ne_none_str (fin_bl I q (by simp))
    | _ => exact absurd (show false = true from hs) Bool.false_ne_true
  | bl i =>
    cases rx
    cases y with
    | non => cases ry; exact PySem.EqNone.ne_bool_none (fin_bl I q (by simp))
    | bl j => cases ry; exact ne_bool (fin_bl I q (congrArg not dec_bl))
    | str j => obtain ⟨t', rfl⟩ := ry; exact PySem.EqMixed.ne_bool_str (fin_bl I q (by simp))
    | _ => exact absurd (show false = true from hs) Bool.false_ne_true
  | int i =>
    obtain ⟨t, rfl⟩ := rx
    cases y with
    | non => cases ry; exact PySem.EqNone.ne_int_none (fin_bl I q (by simp))
    | int j => obtain ⟨t', rfl⟩ := ry; exact ne_int (fin_bl I q (congrArg not dec_int))
    | str j => obtain ⟨t', rfl⟩ := ry; exact PySem.EqMixed.ne_int_str (fin_bl I q (by simp))
    | _ => exact absurd (show false = true from hs) Bool.false_ne_true
  | str i =>
    obtain ⟨t, rfl⟩ := rx
    cases y with
    | non => cases ry; exact PySem.EqNone.ne_str_none (fin_bl I q (by simp))
    | bl j => cases ry; exact PySem.EqMixed.ne_str_bool (fin_bl I q (by simp))
    | int j => obtain ⟨t', rfl⟩ := ry; exact PySem.EqMixed.ne_str_int (fin_bl I q (by simp))
    | str j => obtain ⟨t', rfl⟩ := ry; exact ne_str (fin_bl I q (congrArg not dec_str))
    | _ => exact absurd (show false = true from hs) Bool.false_ne_true
  | byt i =>
    obtain ⟨t, rfl⟩ := rx
    cases y with
    | byt j => obtain ⟨t', rfl⟩ := ry; exact PySem.W.ne_bytes (fin_bl I q (congrArg not dec_byt))
    | _ => exact absurd (show false = true from hs) Bool.false_ne_true
  | _ => cases y <;> exact absurd (show false = true from hs) Bool.false_ne_true
theorem op_lt : OpR X (compareOp .Lt) (rI0 fun i j => .bl (decide (i < j))) := opB0 fun _ _ _ _ _ _ _ q => lt_int q
theorem op_le : OpR X (compareOp .LtE) (rI0 fun i j => .bl (decide (i <= j))) := opB0 fun _ _ _ _ _ _ _ q => le_int q
theorem nomark (b : Expr) {op : CmpOp} (h : op ≠ .In := by decide) (h2 : op ≠ .NotIn := by decide) : behindInMarks op b = false := by
  have e1 : (op == CmpOp.In) = false := by cases op <;> first | rfl | exact absurd rfl h
  have e2 : (op == CmpOp.NotIn) = false := by cases op <;> first | rfl | exact absurd rfl h2
  cases b <;> simp [behindInMarks, e1, e2]
theorem pe_cmpR {op : CmpOp} {r : R2} (ho : OpR X (compareOp op) r) (ha : PE X a ta) (hb : PE X b tb) (hm : behindInMarks op b = false) : PE X (.Compare a [op] [b] pos) (tOp r ta tb) := by
  intro pins s σ H Q I h
  exact wpAny_Compare1 (binT ha hb I h fun v u s2 x y H2 I2 rx ry q => ho pins s2 σ H2 x y v u Q I2 rx ry q) hm
def tTest (t : TE) : TT := fun σ H Q => t σ H fun x H' => ∃ k, x = .bl k /\ Q k H'
theorem pt_cmpR {op : CmpOp} {r : R2} (ho : OpR X (compareOp op) r) (ha : PE X a ta) (hb : PE X b tb) (hm : behindInMarks op b = false) : PT X (.Compare a [op] [b] pos) (tTest (tOp r ta tb)) := by
  intro pins s σ H Q I h
  refine wpAny_isTrue_Compare1 (thn (ha pins s σ H _ I h) fun v s1 ⟨x, H1, I1, r1, q1⟩ => thn (hb pins s1 σ H1 _ I1 q1) fun u s2 ⟨y, H2, I2, r2, q2⟩ =>
    thn (ho pins s2 σ H2 x y v u _ I2 r1 r2 q2) fun c s3 ⟨z, H3, I3, r3, k, e, q3⟩ => ?_) hm
  subst e
  cases r3
  exact wpAny_truthy_bool ⟨H3, I3, q3⟩
theorem line63 : (sizeLine : Nat) < 2 ^ 63 := by rw [sizeLine_eq]; decide
theorem vals1 {x : V} {us : List Value} (r : Vals [x] us) : ∃ u, us = [u] /\ RelV x u := by
  cases r with
  | cons r1 r2 => cases r2; exact ⟨_, rfl, r1⟩
end
structure ObjM (h : Heap) (x dx C : Addr) (mA : Str -> Option Value) : Prop where
  obj : h.get? x = some (PySem.W.instObj C dx)
  ns : h.Ns1 dx mA
  ne : dx ≠ x
theorem lookIn_ns {h : Heap} {dx : Addr} {mA : Str -> Option Value} (n : h.Ns1 dx mA) : ∃ od, h.get? dx = some od /\ ∀ name, PySem.W.lookIn name od = some (mA name) := by
  obtain ⟨o, es, ep, ho, hd, hk, _, hm⟩ := n
  refine ⟨o, ho, fun name => ?_⟩
  have e := hm name
  unfold nsFind findBy at e
  rw [<- Array.find?_toList] at e
  unfold PySem.W.lookIn
  rw [hd]
  dsimp only
  split
  · rename_i y q
    rw [q] at e
    exact congrArg some e
  · rename_i q
    rw [q] at e
    have a : es.toList.any (·.refKey) = false := by
      rw [List.any_eq_false]
      intro y hy
      obtain ⟨z, t, hkey⟩ := hk y (Array.mem_toList_iff.mp hy)
      simp [DictEntry.refKey, hkey]
    have a' : ¬ es.toList.any (·.refKey) = true := by rw [a]; exact Bool.false_ne_true
    rw [if_neg a']
    exact congrArg some e
theorem ObjM.look {h : Heap} {x dx C : Addr} {mA : Str -> Option Value} (I : ObjM h x dx C mA) : ∃ od, PySem.W.InstAt h x (PySem.W.instObj C dx) C (some od) /\ ∀ name, PySem.W.lookIn name od = some (mA name) :=
  let ⟨od, ho, hl⟩ := lookIn_ns I.ns
  ⟨od, ⟨I.obj, rfl, rfl, ho⟩, hl⟩
section
variable {prog : Program} {w : World} {A : Around} {E : Value -> Shared -> Prop} {s : Shared} {K : PySem.W.Frag} {x dx C f : Addr} {mA : Str -> Option Value} {name : Str} {v : Value}
theorem get_map {expr : Bool} {Q : Value -> Shared -> Prop} (X : K.In s.heap) (I : ObjM s.heap x dx C mA) (hg : PySem.W.plainGet K C name = true) (hh : PySem.W.hasDictIn K C = true)
    (ha : PySem.W.findIn K (.ref C) name = some none) (hv : mA name = some v) (hv' : PySem.W.handedIn v = true) (h : Q v { s with toks := s.toks + 1 }) :
    wpAny (model prog w) A (getAttr (.ref x) name expr) Q E s := by
  obtain ⟨od, J, hl⟩ := I.look
  exact PySem.W.get_value X J (PySem.W.plainGet_of hg).1 (PySem.W.findObj_own hh ha rfl (by rw [hl, hv])) hv' h
theorem get_meth {pl : Sem Bool} {Q : Value × List Value -> Shared -> Prop} (X : K.In s.heap) (I : ObjM s.heap x dx C mA) (hg : PySem.W.plainGet K C name = true)
    (hf : PySem.W.findIn K (.ref C) name = some (some (.ref f))) (ht : PySem.W.isFn K (.ref f) = true) (hv : mA name = none) (h : Q (.ref f, [.ref x]) s) :
    wpAny (model prog w) A (getMethod (.ref x) name pl) Q E s := by
  obtain ⟨od, J, hl⟩ := I.look
  exact PySem.W.method_fn X J (PySem.W.plainGet_of hg).1 (PySem.W.plainGet_of hg).2 hf (beq_iff_eq.mp ht) (by show (PySem.W.lookIn name od).map (·.isSome) = some false; rw [hl, hv]; rfl) h
theorem set_map {ns : List Str} {Q : Unit -> Shared -> Prop} (X : K.In s.heap) (I : ObjM s.heap x dx C mA)
    (hs : PySem.W.findIn K (.ref C) "__setattr__" = some (some (.builtin "object.__setattr__"))) (hp : PySem.W.plainOver K C = true) (ht : PySem.W.takerIn K C name = some none) (hh : PySem.W.hasDictIn K C = true)
    (hw : PySem.Within mA ns) (hsz : ns.length <= sizeLine)
    (h : ∀ h', ObjM h' x dx C (fun y => if y = name then some v else mA y) -> Heap.SameBut dx s.heap h' -> Q () { s with heap := h', toks := s.toks + 2 }) :
    wpAny (model prog w) A (setAttr (.ref x) name v) Q E s := by
  obtain ⟨od, J, hl⟩ := I.look
  refine PySem.W.set_plain X J hs (PySem.W.osa_open (s := { s with toks := s.toks + 1 }) (r := none) X J hp ht fun b => ?_)
  obtain ⟨cd, hc, hd'⟩ := PySem.W.any_some hh
  have hx : s.heap.get? x = some ⟨.ref C, some dx, .plain, #[]⟩ := I.obj
  refine wpAny_bind (wpAny_pure (wpAny_bind (wpAny_bind (wpAny_loadPart hx (wpAny_bind (PySem.W.Looks.here (s := { s with toks := s.toks + 1 }) (PySem.W.looks_clsIn X hc) ?_))))))
  rw [hd']
  refine wpAny_pure (a := some dx) (wpAny_bind (wpAny_pure (wpAny_bind ?_)))
  refine wpAny_nsSet1 (s := { s with toks := s.toks + 1 }) I.ns fun h' hn2 hs2 => ?_
  obtain ⟨oD, esD, epD, hoD, hdD, hcD⟩ := hn2.count (PySem.Within.cons name v hw)
  refine wpAny_bind (wpAny_lookBehind hoD (by rw [hdD]; exact pastItsLine_dict (Nat.le_trans hcD (by rw [List.length_cons]; lia))) ?_)
  exact wpAny_pure (h _ ⟨(hs2.2 _ (Ne.symm I.ne)).trans I.obj, hn2, I.ne⟩ hs2)
theorem make_map {R : Result -> Shared -> Prop} {vs : List Value} {kw : List (Str × Value)} (X : K.In s.heap) (hm : PySem.W.makesIn K C = true)
    (hi : PySem.W.findIn K (.ref C) "__init__" = some (some (.ref f))) (hf : PySem.W.typeIn K (.ref f) = some (.type "function"))
    (h : codeAny (model prog w) (A.under (.builtin "type.__call__" ⟨.ref C :: vs, kw⟩)) (.call (.ref f) ⟨.ref (s.heap.objs.size + 1) :: vs, kw⟩) (PySem.W.InitBack (s.heap.objs.size + 1) R)
      { s with heap := (s.heap.push PySem.W.emptyDict).push (PySem.W.instObj C s.heap.objs.size) }) :
    codeAny (model prog w) A (.call (.ref C) ⟨vs, kw⟩) R s := by
  obtain ⟨hh, g, d, t, os⟩ := s
  exact PySem.W.make_core (PySem.W.makes_of X hm) (PySem.W.looks_findIn X hi) (fun self => PySem.W.bind_fn X self hf) (.inl rfl) h
theorem make_map0 {R : Result -> Shared -> Prop} (X : K.In s.heap) (hm : PySem.W.makesIn K C = true)
    (hi : PySem.W.findIn K (.ref C) "__init__" = some (some (.builtin "object.__init__")))
    (hb : ∀ self, PySem.W.Looks (model prog w) s.heap (bindSpecial (.builtin "object.__init__") self) (.builtin "object.__init__", [self]))
    (h : codeAny (model prog w) (A.under (.builtin "type.__call__" ⟨[.ref C], []⟩)) (.call (.builtin "object.__init__") ⟨[.ref (s.heap.objs.size + 1)], []⟩) (PySem.W.InitBack (s.heap.objs.size + 1) R)
      { s with heap := (s.heap.push PySem.W.emptyDict).push (PySem.W.instObj C s.heap.objs.size) }) :
    codeAny (model prog w) A (.call (.ref C) ⟨[], []⟩) R s := by
  obtain ⟨hh, g, d, t, os⟩ := s
  exact PySem.W.make_core (PySem.W.makes_of X hm) (PySem.W.looks_findIn X hi) hb (.inr ⟨rfl, rfl⟩) h
end
def putF (f : Str) (v : V) : List (Str × V) -> List (Str × V)
  | [] => [(f, v)]
  | (g, x) :: r => if g = f then (g, v) :: r else (g, x) :: putF f v r
theorem lookup_putF (f g : Str) (v : V) : ∀ fs : List (Str × V), (putF f v fs).lookup g = if g = f then some v else fs.lookup g
  | [] => by
    show List.lookup g [(f, v)] = _
    by_cases h : g = f
    · have hb : (g == f) = true := beq_iff_eq.mpr h
      simp only [List.lookup, hb, if_pos h]
    · have hb : (g == f) = false := beq_eq_false_iff_ne.mpr h
      simp only [List.lookup, hb, if_neg h]
  | (k, x) :: r => by
    have ih := lookup_putF f g v r
    rw [show putF f v ((k, x) :: r) = (if k = f then (k, v) :: r else (k, x) :: putF f v r) from rfl]
    by_cases hk : k = f
    · rw [if_pos hk]
      by_cases h : g = k
      · have hb : (g == k) = true := beq_iff_eq.mpr h
        simp only [List.lookup, hb, if_pos (h.trans hk)]
      · have hb : (g == k) = false := beq_eq_false_iff_ne.mpr h
        simp only [List.lookup, hb, if_neg (fun e : g = f => h (e.trans hk.symm))]
    · rw [if_neg hk]
      by_cases h : g = k
      · have hb : (g == k) = true := beq_iff_eq.mpr h
        simp only [List.lookup, hb, if_neg (fun e : g = f => hk (h.symm.trans e))]
      · have hb : (g == k) = false := beq_eq_false_iff_ne.mpr h
        simp only [List.lookup, hb]
        exact ih
theorem keys_putF (f : Str) (v : V) : ∀ fs : List (Str × V), f ∈ (putF f v fs).map (·.1) /\ ∀ g, g ∈ fs.map (·.1) -> g ∈ (putF f v fs).map (·.1)
  | [] => ⟨by simp [putF], fun g h => by simp at h⟩
  | (k, x) :: r => by
    obtain ⟨i1, i2⟩ := keys_putF f v r
    rw [show putF f v ((k, x) :: r) = (if k = f then (k, v) :: r else (k, x) :: putF f v r) from rfl]
    by_cases hk : k = f
    · rw [if_pos hk]
      subst hk
      exact ⟨by simp, fun g h => by simpa using h⟩
    · rw [if_neg hk]
      refine ⟨?_, fun g h => ?_⟩
      · rw [List.map_cons]
        exact List.mem_cons_of_mem _ i1
      · rw [List.map_cons] at h ⊢
        rcases List.mem_cons.mp h with e | e
        · exact List.mem_cons.mpr (.inl e)
        · exact List.mem_cons_of_mem _ (i2 g e)
theorem length_putF (f : Str) (v : V) : ∀ fs : List (Str × V), (putF f v fs).length <= fs.length + 1
  | [] => by simp [putF]
  | (k, x) :: r => by
    have ih := length_putF f v r
    rw [show putF f v ((k, x) :: r) = (if k = f then (k, v) :: r else (k, x) :: putF f v r) from rfl]
    by_cases hk : k = f
    · rw [if_pos hk, List.length_cons, List.length_cons]; lia
    · rw [if_neg hk, List.length_cons, List.length_cons]; lia
theorem RelO.some_of {v : V} {o : Option Value} (r : RelO (some v) o) : ∃ u, o = some u /\ RelV v u := by
  cases o with
  | none => exact (show False from r).elim
  | some u => exact ⟨u, rfl, r⟩
theorem RelO.none_of {o : Option Value} (r : RelO none o) : o = none := by
  cases o with
  | none => rfl
  | some u => exact (show False from r).elim
theorem handed_of {v : V} {u : Value} (r : RelV v u) : PySem.W.handedIn u = true := by
  cases v with
  | non => cases (show u = Value.none from r); rfl
  | bl b => cases (show u = Value.bool b from r); rfl
  | int i => obtain ⟨t, e⟩ := (show ∃ t, u = Value.int i t from r); cases e; rfl
  | str x => obtain ⟨t, e⟩ := (show ∃ t, u = Value.str x t from r); cases e; rfl
  | byt b => obtain ⟨t, e⟩ := (show ∃ t, u = Value.bytes b t from r); cases e; rfl
  | flt b => obtain ⟨t, e⟩ := (show ∃ t, u = Value.float b t from r); cases e; rfl
  | ref a => cases (show u = Value.ref a from r); rfl
  | ty n => cases (show u = Value.type n from r); rfl
section
variable {P : Program} {w : World} {H H' : Hp} {h h' : Heap} {a C dx : Addr} {fs fs' : List (Str × V)}
theorem ins_get (hok : HOk P w H h) (e : H a = some (.ins C dx fs)) : ∃ mA, ObjM h a dx C mA /\ (∀ f, RelO (fs.lookup f) (mA f)) /\ PySem.Within mA (fs.map (·.1)) /\ fs.length <= 1000 /\ H dx = some (.own a) := by
  obtain ⟨d, z, ne, ob, mA, n, r, q⟩ := (show ObjOk P w H h a (.ins C dx fs) from hok a _ e)
  exact ⟨mA, ⟨ob, n, ne⟩, r, q, z, d⟩
end
structure Cls (K : PySem.W.Frag) (C : Addr) : Prop where
  pg : PySem.W.plainGet K C Str.empty = true
  hd : PySem.W.hasDictIn K C = true
  po : PySem.W.plainOver K C = true
  sa : PySem.W.findIn K (.ref C) "__setattr__" = some (some (.builtin "object.__setattr__"))
theorem Cls.get {K : PySem.W.Frag} {C : Addr} (c : Cls K C) (f : Str) : PySem.W.plainGet K C f = true := c.pg
def NoAttr (K : PySem.W.Frag) (C : Addr) (f : Str) : Prop := PySem.W.findIn K (.ref C) f = some none
theorem NoAttr.taker {K : PySem.W.Frag} {C : Addr} {f : Str} (n : NoAttr K C f) : PySem.W.takerIn K C f = some none := by
  unfold PySem.W.takerIn
  rw [show PySem.W.findIn K (.ref C) f = some none from n]
  rfl
structure Meth (K : PySem.W.Frag) (C : Addr) (m : Str) (f : Addr) : Prop where
  at_ : PySem.W.findIn K (.ref C) m = some (some (.ref f))
  fn : PySem.W.isFn K (.ref f) = true
  kp : PySem.W.keepIn K (.ref f) = true
section
variable {X : Cx} {pins : List (Addr × Obj)} {σ : St} {H : Hp} {s : Shared} {a C dx : Addr} {fs : List (Str × V)} {f : Str} {v : V} {A : Around} {E : Value -> Shared -> Prop}
theorem getattr_ok {b : Bool} {Q : Value -> Shared -> Prop} (I : Inv X pins σ H s) (e : H a = some (.ins C dx fs)) (c : Cls X.K C) (n : NoAttr X.K C f) (l : fs.lookup f = some v)
    (h : ∀ u s', Inv X pins σ H s' -> RelV v u -> Q u s') : wpAny (model X.prog X.w) A (getAttr (.ref a) f b) Q E s := by
  obtain ⟨mA, O, r, _, _, _⟩ := ins_get I.hok e
  obtain ⟨u, hu, ru⟩ := RelO.some_of (v := v) (o := mA f) (by rw [<- l]; exact r f)
  exact get_map I.kIn O (c.get f) c.hd n hu (handed_of ru) (h u _ (I.tok _) ru)
theorem getmeth_ok {m : Str} {g : Addr} {pl : Sem Bool} {Q : Value × List Value -> Shared -> Prop} (I : Inv X pins σ H s) (e : H a = some (.ins C dx fs)) (c : Cls X.K C) (k : Meth X.K C m g) (l : fs.lookup m = none)
    (h : Q (.ref g, [.ref a]) s) : wpAny (model X.prog X.w) A (getMethod (.ref a) m pl) Q E s := by
  obtain ⟨mA, O, r, _, _, _⟩ := ins_get I.hok e
  have hn : mA m = none := RelO.none_of (by rw [<- l]; exact r m)
  exact get_meth I.kIn O (c.get m) k.at_ k.fn hn h
theorem setattr_ok {y : V} {u : Value} {Q : Unit -> Shared -> Prop} (I : Inv X pins σ H s) (e : H a = some (.ins C dx fs)) (c : Cls X.K C) (n : NoAttr X.K C f) (hl : fs.length < 1000) (ry : RelV y u)
    (h : ∀ s', Inv X pins σ (upd H a (.ins C dx (putF f y fs))) s' -> Q () s') : wpAny (model X.prog X.w) A (setAttr (.ref a) f u) Q E s := by
  obtain ⟨mA, O, r, wi, _, ho⟩ := ins_get I.hok e
  have hz : (fs.map (·.1)).length <= sizeLine := by rw [List.length_map, sizeLine_eq]; lia
  refine set_map I.kIn O c.sa c.po n.taker c.hd wi hz fun h' O' sb => h _ ?_
  have hd : ∃ o, h'.get? dx = some o := let ⟨o, _, _, e', _⟩ := O'.ns; ⟨o, e'⟩
  refine I.write (x := a) (e := dx) (by rw [e]; exact True.intro) (.inr ho) (fun b q hb z => (sb.2 b hb).trans z) hd ?_
  refine ⟨by rw [upd_ne O.ne]; exact ho, ?_, O.ne, O'.obj, _, O'.ns, fun g => ?_, fun g hg => ?_⟩
  · have := length_putF f y fs; lia
  · show RelO ((putF f y fs).lookup g) (if g = f then some u else mA g)
    rw [lookup_putF]
    by_cases q : g = f
    · rw [if_pos q, if_pos q]; exact ry
    · rw [if_neg q, if_neg q]; exact r g
  · by_cases q : g = f
    · rw [q]; exact (keys_putF f y fs).1
    · refine (keys_putF f y fs).2 g (wi g fun z => hg ?_)
      show (if g = f then some u else mA g) = none
      rw [if_neg q]; exact z
theorem Inv.made (I : Inv X pins σ H s) : Inv X pins σ (upd (upd H s.heap.objs.size (.own (s.heap.objs.size + 1))) (s.heap.objs.size + 1) (.ins C s.heap.objs.size []))
    { s with heap := (s.heap.push PySem.W.emptyDict).push (PySem.W.instObj C s.heap.objs.size) } := by
  have e1 : (s.heap.push PySem.W.emptyDict).get? s.heap.objs.size = some PySem.W.emptyDict := Heap.get?_push_size s.heap rfl
  have e2 : ((s.heap.push PySem.W.emptyDict).push (PySem.W.instObj C s.heap.objs.size)).get? (s.heap.objs.size + 1) = some (PySem.W.instObj C s.heap.objs.size) := by
    have := Heap.get?_push_size (s.heap.push PySem.W.emptyDict) (o := PySem.W.instObj C s.heap.objs.size) rfl
    rwa [Heap.size_push] at this
  have e3 : (s.heap.push PySem.W.emptyDict).Ns s.heap.objs.size (fun _ => none) := ⟨PySem.W.emptyDict, #[], _, e1, rfl, (fun e he => absurd he (by simp)), fun _ => rfl⟩
  have I1 := I.laid (a := s.heap.objs.size) (o := .own (s.heap.objs.size + 1)) (h' := s.heap.push PySem.W.emptyDict) (t' := s.toks) (fun b u q => Heap.get?_push_of_some _ q) (Nat.le_refl _) ⟨_, e1⟩
  refine I1.laid (a := s.heap.objs.size + 1) (o := .ins C s.heap.objs.size []) (t' := s.toks) (fun b u q => Heap.get?_push_of_some _ q) (Nat.le_of_eq (Heap.size_push _ _)) ?_
  have ne : s.heap.objs.size ≠ s.heap.objs.size + 1 := Nat.ne_of_lt (Nat.lt_succ_self _)
  refine ⟨by rw [upd_ne ne, upd_same], Nat.zero_le _, ne, e2, fun _ => none, (Heap.Ns1.of_empty e3).at fun o q => Heap.get?_push_of_some _ q, fun _ => True.intro, fun y hy => absurd rfl hy⟩
theorem attr_of {prog : Program} {w : World} {env : Env} {e : Expr} {f : Str} {pos : Pos} {s : Shared} {Q : Value -> Shared -> Prop} (hb : attributeBase e f env (eval e env) = eval e env)
    (h : wpAny (model prog w) A (eval e env) (fun o s₁ => wpAny (model prog w) A (getAttr o f true) Q E s₁) E s) : wpAny (model prog w) A (eval (.Attribute e f pos) env) Q E s :=
  Attribute_any_ h (by rw [arm_eval_Attribute, hb])
end
def tFld (K : PySem.W.Frag) (ta : TE) (f : Str) : TE := fun σ H Q => ta σ H fun x H1 => ∃ a C dx fs v, x = .ref a /\ H1 a = some (.ins C dx fs) /\ Cls K C /\ NoAttr K C f /\ fs.lookup f = some v /\ Q v H1
def sFld (K : PySem.W.Frag) (ta tv : TE) (f : Str) : TS := fun D σ H => tv σ H fun y H1 => ta σ H1 fun x H2 => ∃ a C dx fs, x = .ref a /\ H2 a = some (.ins C dx fs) /\ Cls K C /\ NoAttr K C f /\ fs.length < 1000 /\
  D.nx σ (upd H2 a (.ins C dx (putF f y fs)))
section
variable {X : Cx} {o e value : Expr} {f : Str} {pos pos' tpos : Pos} {ta tv : TE}
theorem pe_fld (he : PE X e ta) (hb : attributeBase e f X.env (eval e X.env) = eval e X.env) : PE X (.Attribute e f pos) (tFld X.K ta f) := by
  intro pins s σ H Q I h
  refine attr_of hb (thn (he pins s σ H _ I h) fun u s1 ⟨x, H1, I1, rx, a, C, dx, fs, v, ex, ea, c, n, l, q⟩ => ?_)
  subst ex
  obtain rfl : u = Value.ref a := rx
  exact getattr_ok I1 ea c n l fun u' s2 I2 ru => ⟨v, H1, I2, ru, q⟩
theorem ps_fld (ha : PE X o ta) (hv : PE X value tv) (hs : swapsWith value (some (.Attribute o f pos')) pos.line X.env = pure false) : PS X (.Assign [.Attribute o f pos'] value pos) (sFld X.K ta tv f) := by
  intro pins s σ H D I h
  refine plainObj_wpAny_Assign_Attribute (thn (hv pins s σ H _ I h) fun u s1 ⟨y, H1, I1, ry, q⟩ => thn (ha pins s1 σ H1 _ I1 q) fun ov s2 ⟨x, H2, I2, rx, a, C, dx, fs, ex, ea, c, n, l, q2⟩ => ?_) hs
  subst ex
  obtain rfl : ov = Value.ref a := rx
  exact setattr_ok I2 ea c n l ry fun s3 I3 => ⟨σ, _, I3, q2⟩
end
section
variable {X : Cx} {pins : List (Addr × Obj)} {σ : St} {H : Hp} {s : Shared} {A : Around} {E : Value -> Shared -> Prop} {Q : Value -> Shared -> Prop} {c : Value} {b : Bool}
inductive TyOf (K : PySem.W.Frag) (H : Hp) : V -> Value -> Prop where
  | non : TyOf K H .non (.type "NoneType")
  | bl (x : Bool) : TyOf K H (.bl x) (.type "bool")
  | int (i : Int) : TyOf K H (.int i) (.type "int")
  | str (x : Str) : TyOf K H (.str x) (.type "str")
  | flt (x : UInt64) : TyOf K H (.flt x) (.type "float")
  | lst {a : Addr} {xs : List V} (e : H a = some (.lst xs)) : TyOf K H (.ref a) (.type "list")
  | frz {a : Addr} {o : Obj} {xs : List V} (e : H a = some (.frz o (.lst xs))) : TyOf K H (.ref a) (.type "list")
  | tup {a : Addr} {xs : List V} (e : H a = some (.tup xs)) : TyOf K H (.ref a) (.type "tuple")
  | dK {a : Addr} {kvs : List (Key × V)} (e : H a = some (.dK kvs)) : TyOf K H (.ref a) (.type "dict")
  | dT {a : Addr} {kvs : List (List Key × V)} (e : H a = some (.dT kvs)) : TyOf K H (.ref a) (.type "dict")
  | ins {a C dx : Addr} {fs : List (Str × V)} (e : H a = some (.ins C dx fs)) (cl : Cls K C) (ha : PySem.W.findIn K (.ref C) "__class__" = some (some (.builtin "object.__class__")))
      (hn : PySem.W.specialIn K (.builtin "object.__class__") "__get__" = some (some (.builtin "getset_descriptor.__get__"))) (htk : PySem.W.takesIn K (.builtin "object.__class__") = some true)
      (hm : PySem.W.mroIn K C (.type "object") = some true) : TyOf K H (.ref a) (.ref C)
theorem isinst_ok {x : V} {u t : Value} (I : Inv X pins σ H s) (rx : RelV x u) (ty : TyOf X.K H x t) (e : PySem.W.kitOne X.K t c = some b) (h : ∀ tk, Q (.bool b) { s with toks := tk }) :
    wpAny (model X.prog X.w) A (call (.builtin "isinstance") [u, c]) Q E s := by
  cases ty with
  | non => cases (show u = Value.none from rx); exact PySem.W.kia_one PySem.W.kitx_none I.kIn True.intro e (fun z => nomatch z) h
  | bl y => cases (show u = Value.bool y from rx); exact PySem.W.kia_one PySem.W.kitx_bool I.kIn True.intro e (fun z => nomatch z) h
  | int i => obtain ⟨t, q⟩ := (show ∃ t, u = Value.int i t from rx); cases q; exact PySem.W.kia_one PySem.W.kitx_int I.kIn True.intro e (fun z => nomatch z) h
  | str y => obtain ⟨t, q⟩ := (show ∃ t, u = Value.str y t from rx); cases q; exact PySem.W.kia_one PySem.W.kitx_str I.kIn True.intro e (fun z => nomatch z) h
  | flt y => obtain ⟨t, q⟩ := (show ∃ t, u = Value.float y t from rx); cases q; exact PySem.W.kia_one PySem.W.kitx_float I.kIn True.intro e (fun z => nomatch z) h
  | @lst a xs ea =>
    cases (show u = Value.ref a from rx)
    obtain ⟨_, _, n, _, h1⟩ := (show ObjOk X.prog X.w H s.heap a (.lst xs) from I.hok a _ ea)
    exact PySem.W.kia_one PySem.W.kitx_list I.kIn ⟨_, h1, rfl⟩ e (fun z => nomatch z) h
  | @frz a ob xs ea =>
    cases (show u = Value.ref a from rx)
    obtain ⟨_, _, _, n, _, h1⟩ := (show ObjOk X.prog X.w H s.heap a (.frz ob (.lst xs)) from I.hok a _ ea)
    exact PySem.W.kia_one PySem.W.kitx_list I.kIn ⟨_, h1, rfl⟩ e (fun z => nomatch z) h
  | @tup a xs ea =>
    cases (show u = Value.ref a from rx)
    obtain ⟨_, _, _, p⟩ := (show ObjOk X.prog X.w H s.heap a (.tup xs) from I.hok a _ ea)
    obtain ⟨o, h1, h2, _⟩ := p
    exact PySem.W.kia_one PySem.W.kitx_tuple I.kIn ⟨o, h1, h2⟩ e (fun z => nomatch z) h
  | @dK a kvs ea =>
    cases (show u = Value.ref a from rx)
    obtain ⟨_, _, vs, _, p⟩ := (show ObjOk X.prog X.w H s.heap a (.dK kvs) from I.hok a _ ea)
    obtain ⟨o, es, ep, h1, h2, _⟩ := p
    exact PySem.W.kia_one PySem.W.kitx_dict I.kIn ⟨o, h1, h2.1⟩ e (fun z => nomatch z) h
  | @dT a kvs ea =>
    cases (show u = Value.ref a from rx)
    obtain ⟨_, _, xs, _, o, es, ep, h1, h2, _⟩ := (show ObjOk X.prog X.w H s.heap a (.dT kvs) from I.hok a _ ea)
    exact PySem.W.kia_one PySem.W.kitx_dict I.kIn ⟨o, h1, h2.1⟩ e (fun z => nomatch z) h
  | @ins a C dx fs ea cl ha hn htk hm =>
    cases (show u = Value.ref a from rx)
    obtain ⟨mA, O, _⟩ := ins_get I.hok ea
    obtain ⟨od, J, _⟩ := O.look
    exact PySem.W.kia_one (PySem.W.kitx_own (cl.get _) cl.hd ha hn htk hm) I.kIn J e (fun z => nomatch z) h
end
structure Room (k : Nat) (A : Around) : Prop where
  hd : A.handled = none
  dp : A.depth + 3 * k + 5 < recursionLimit
  un : A.units + 16 * k + 200 < cLine
theorem Room.mono {j k : Nat} {A : Around} (r : Room k A) (h : j <= k) : Room j A := ⟨r.hd, by have := r.dp; lia, by have := r.un; lia⟩
theorem Room.deeper {k : Nat} {A : Around} (r : Room (k + 1) A) (env : Env) : Room k (A.deeper env) :=
  ⟨r.hd, by have := r.dp; show A.depth + 1 + 3 * k + 5 < _; lia, by have := r.un; show A.units + 3 + 16 * k + 200 < _; lia⟩
theorem make_depth {A : Around} {C : Addr} {us : List Value} {kw : List (Str × Value)} : (A.under (.builtin "type.__call__" ⟨.ref C :: us, kw⟩)).depth = A.depth + 1 := by
  first | rfl | simp [Around.under, Code.weight, Code.isCreation, Code.isGuard, Code.isCaller, Code.frames, Code.isFrame, guardIds]
theorem make_units {A : Around} {C : Addr} {us : List Value} {kw : List (Str × Value)} : (A.under (.builtin "type.__call__" ⟨.ref C :: us, kw⟩)).units = A.units + 1 := by
  first | rfl | simp [Around.under, Code.cUnits, Code.frames, Code.isFrame]
theorem Room.make {k : Nat} {A : Around} (r : Room (k + 1) A) (C : Addr) (us : List Value) (kw : List (Str × Value)) : Room k (A.under (.builtin "type.__call__" ⟨.ref C :: us, kw⟩)) :=
  ⟨r.hd, by have := r.dp; rw [make_depth]; lia, by have := r.un; rw [make_units]; lia⟩
theorem Room.depth {k : Nat} {A : Around} (r : Room k A) : A.depth < recursionLimit := by have := r.dp; lia
theorem Room.units {k : Nat} {A : Around} (r : Room k A) : A.units + 64 < cLine := by have := r.un; lia
def tNil : TA := fun _ H Q => Q [] H
def tCons (ta : TE) (tr : TA) : TA := fun σ H Q => ta σ H fun x H1 => tr σ H1 fun xs H2 => Q (x :: xs) H2
section
variable {X : Cx} {e : Expr} {es : List Expr} {te : TE} {t : TA} {pos : Pos}
theorem pa_nil : PA X [] tNil := fun _ _ _ _ H Q I h => Calls.spliced_nil ⟨[], H, I, .nil, h⟩
theorem pa_cons (ha : PE X e te) (hr : PA X es t) (hs : starEach (e :: es) X.env = (false, eval e X.env) :: starEach es X.env := by rfl) : PA X (e :: es) (tCons te t) := by
  intro pos pins s σ H Q I h
  rw [hs]
  show wpAny _ _ (spliced ((false, eval e X.env) :: backTo pos (starEach es X.env))) _ _ s
  refine Calls.spliced_cons (thn (ha pins s σ H _ I h) fun u s1 ⟨x, H1, I1, r1, q1⟩ => ?_)
  exact thn (hr pos pins s1 σ H1 _ I1 q1) fun us s2 ⟨xs, H2, I2, r2, q2⟩ => ⟨x :: xs, H2, I2, .cons r1 r2, q2⟩
def tTup (t : TA) : TE := fun σ H Q => t σ H fun xs H1 => xs.length <= sizeLine /\ ∀ p, H1 p = none -> Q (.ref p) (upd H1 p (.tup xs))
def tLst (t : TA) : TE := fun σ H Q => t σ H fun xs H1 => xs.length <= sizeLine /\ ∀ p, H1 p = none -> Q (.ref p) (upd H1 p (.lst xs))
theorem pe_tup {x1} (h : PA X es t) : PE X (.Tuple es x1 pos) (tTup t) := by
  intro pins s σ H Q I hq
  refine wpAny_Tuple_spliced (thn (h pos pins s σ H _ I hq) fun us s1 ⟨xs, H1, I1, r, z, q⟩ => ⟨by rw [<- r.length]; exact z, ?_⟩)
  have hf : H1 s1.heap.objs.size = none := I1.hok.fresh (Nat.le_refl _)
  refine ⟨.ref s1.heap.objs.size, upd H1 s1.heap.objs.size (.tup xs), I1.laid (t' := s1.toks) (fun b u e => Heap.get?_push_of_some _ e) (Nat.le_refl _) ?_, rfl, q _ hf⟩
  exact ⟨z, us, r, ⟨_, Heap.get?_push_size _ rfl, rfl, _, rfl⟩⟩
theorem pe_lst (h : PA X es t) : PE X (.List es pos) (tLst t) := by
  intro pins s σ H Q I hq
  refine wpAny_List_spliced (thn (h pos pins s σ H _ I hq) fun us s1 ⟨xs, H1, I1, r, z, q⟩ => ⟨by rw [<- r.length]; exact z, ?_⟩)
  have hf : H1 s1.heap.objs.size = none := I1.hok.fresh (Nat.le_refl _)
  refine ⟨.ref s1.heap.objs.size, upd H1 s1.heap.objs.size (.lst xs), I1.laid (t' := s1.toks) (fun b u e => Heap.get?_push_of_some _ e) (Nat.le_refl _) ?_, rfl, q _ hf⟩
  exact ⟨z, us, 0, r, Heap.get?_push_size _ rfl⟩
end
abbrev Sp := List V -> Hp -> VK -> XK -> Prop
abbrev CXT := List Env -> Hp -> Shared -> XK -> Value -> Shared -> Prop
structure Env0 (P : Program) (w : World) (K : PySem.W.Frag) (mg : Str -> Option Value) (base : Heap) (A : Around) (outer : List Env) (s : Shared) (H : Hp) : Prop where
  frames : A.frames = some outer
  mod : Mod K mg base
  bs : ∀ b o, base.get? b = some o -> s.heap.get? b = some o /\ H b = none
  bsz : base.objs.size <= s.heap.objs.size
  funs : s.heap.FunFrames base outer
  frf : ∀ b ∈ frs outer, H b = none
  hok : HOk P w H s.heap
  bare : AllBare s.gens
def CE (outer : List Env) (P : Program) (w : World) (H : Hp) (s : Shared) (Q : VK) (u : Value) (s' : Shared) : Prop :=
  ∃ v H', s'.os = s.os /\ AllBare s'.gens /\ Un (frs outer) [] H H' s.heap s'.heap /\ HOk P w H' s'.heap /\ RelV v u /\ Q v H'
def CR (CX : CXT) (outer : List Env) (P : Program) (w : World) (H : Hp) (s : Shared) (Q : VK) (E : XK) (r : Result) (s' : Shared) : Prop :=
  match r with
  | .ok (.ret u) => CE outer P w H s Q u s'
  | .ok _ => False
  | .error e => CX outer H s E e s'
structure FnOk (P : Program) (w : World) (K : PySem.W.Frag) (mg : Str -> Option Value) (base : Heap) (CX : CXT) (k : Nat) (f : Addr) (fd : FuncData) (ps : List Str) (sp : Sp) : Prop where
  len : ∀ vs H Q E, sp vs H Q E -> vs.length = ps.length
  run : ∀ (A : Around) (outer : List Env) (s : Shared) (H : Hp) (args : Args) (us : List Value) (vs : List V) (Q : VK) (E : XK), Room k A -> Env0 P w K mg base A outer s H -> BindsTo s fd args (ps.zip us) -> Vals vs us -> sp vs H Q E ->
    codeAny (model P w) A (.call (.ref f) args) (CR CX outer P w H s Q E) s
theorem FnOk.mono {P : Program} {w : World} {K : PySem.W.Frag} {mg : Str -> Option Value} {base : Heap} {CX : CXT} {j k : Nat} {f : Addr} {fd : FuncData} {ps : List Str} {sp : Sp} (F : FnOk P w K mg base CX j f fd ps sp) (h : j <= k) :
    FnOk P w K mg base CX k f fd ps sp := ⟨F.len, fun A outer s H args us vs Q E hr => F.run A outer s H args us vs Q E (hr.mono h)⟩
theorem Env0.make {P : Program} {w : World} {K : PySem.W.Frag} {mg : Str -> Option Value} {base : Heap} {A : Around} {outer : List Env} {s : Shared} {H : Hp} (e : Env0 P w K mg base A outer s H) (C : Addr) (us : List Value) (kw : List (Str × Value)) :
    Env0 P w K mg base (A.under (.builtin "type.__call__" ⟨.ref C :: us, kw⟩)) outer s H := ⟨by first | exact e.frames | (simpa [Around.under, Code.envs, Code.isFrame, pushEnvs] using e.frames), e.mod, e.bs, e.bsz, e.funs, e.frf, e.hok, e.bare⟩
section
variable {X : Cx} {pins : List (Addr × Obj)} {σ : St} {H : Hp} {s s' : Shared}
theorem Inv.env0 (I : Inv X pins σ H s) : Env0 X.prog X.w X.K X.mg X.base X.A X.stack s H :=
  ⟨I.ok.frames, I.ok.mod, I.bs, Nat.le_trans I.ok.bsz I.sz, I.stack, I.stkFree, I.hok, I.bare⟩
theorem Inv.after {Q : VK} {u : Value} (I : Inv X pins σ H s) (h : CE X.stack X.prog X.w H s Q u s') : EP X pins σ Q u s' := by
  obtain ⟨v, H', os, bare, un, hok, r, q⟩ := h
  obtain ⟨hh, g, d, t, os'⟩ := s'
  obtain rfl : os' = s.os := os
  exact ⟨v, H', I.call (h' := hh) (g' := g) (d' := d) (t' := t) (ch := []) un hok bare (fun b z => absurd z (by simp)), r, q⟩
end
def tCall (sp : Sp) (dvs : List V) (E : XK) (t : TA) : TE := fun σ H Q => t σ H fun vs H1 => sp (vs ++ dvs) H1 Q E
def tMake (C : Addr) (sp : Sp) (dvs : List V) (E : XK) (t : TA) : TE := fun σ H Q => t σ H fun vs H1 => ∀ x dx, H1 x = none -> H1 dx = none -> dx ≠ x ->
  sp (.ref x :: (vs ++ dvs)) (upd (upd H1 dx (.own x)) x (.ins C dx [])) (fun v H2 => v = .non /\ Q (.ref x) H2) E
def Binds (K : PySem.W.Frag) (fd : FuncData) (ps : List Str) (ds : List Value) : Prop :=
  ∀ (s : Shared) (us : List Value), K.In s.heap -> (us ++ ds).length = ps.length -> BindsTo s fd ⟨us, []⟩ (ps.zip (us ++ ds))
theorem Binds.all {K : PySem.W.Frag} {fd : FuncData} {ps : List Str} (h : ∀ us : List Value, us.length = ps.length -> bindArgs fd ⟨us, []⟩ = pure (ps.zip us)) : Binds K fd ps [] := fun s us _ hl => by
  rw [List.append_nil] at hl ⊢
  exact .of_eq (h us hl)
def Passes (CX : CXT) (X : Cx) (E : XK) : Prop := ∀ (pins : List (Addr × Obj)) (σ : St) (H : Hp) (s : Shared) (e : Value) (s' : Shared), Inv X pins σ H s -> CX X.stack H s E e s' -> X.xe e s'
section
variable {X : Cx} {CX : CXT} {k : Nat} {f C : Addr} {fd : FuncData} {ps : List Str} {sp : Sp} {dvs : List V} {ds : List Value} {E : XK} {x m : Str} {p pos apos : Pos} {e o : Expr} {es : List Expr} {ta : TE} {t : TA}
theorem run_fn {pins : List (Addr × Obj)} {σ : St} {H : Hp} {s : Shared} {Q : VK} {us : List Value} {vs : List V} (F : FnOk X.prog X.w X.K X.mg X.base CX k f fd ps sp) (hr : Room k X.A) (hb : Binds X.K fd ps ds) (hd : Vals dvs ds) (hx : Passes CX X E)
    (I : Inv X pins σ H s) (r : Vals vs us) (h : sp (vs ++ dvs) H Q E) : wpAny (model X.prog X.w) X.A (call (.ref f) us) (EP X pins σ Q) X.xe s := by
  have r2 : Vals (vs ++ dvs) (us ++ ds) := r.append hd
  have hl : (us ++ ds).length = ps.length := by rw [<- r2.length]; exact F.len _ _ _ _ h
  refine wpAny_call (codeAny_mono (F.run X.A X.stack s H ⟨us, []⟩ (us ++ ds) (vs ++ dvs) Q E hr I.env0 (hb s us I.kIn hl) r2 h) fun r s' hq => ?_)
  cases r with
  | error e => exact hx pins σ H s e s' I hq
  | ok fl =>
    cases fl with
    | ret u => exact I.after hq
    | next => exact False.elim hq
    | brk => exact False.elim hq
    | cont => exact False.elim hq
theorem pe_call (F : FnOk X.prog X.w X.K X.mg X.base CX k f fd ps sp) (hr : Room k X.A) (hg : Gl X x) (hm : X.mg x = some (.ref f)) (hk : PySem.W.keepIn X.K (.ref f) = true) (hb : Binds X.K fd ps ds) (hd : Vals dvs ds) (hx : Passes CX X E)
    (ha : PA X (e :: es) t) (hdb : (x == ("__debug__" : Str)) = false := by decide) (he : starEach (e :: es) X.env = (false, eval e X.env) :: starEach es X.env := by rfl) (hpl : (backTo pos (starEach es X.env)).any (·.1) = false := by rfl) :
    PE X (.Call (.Name x p) (e :: es) [] pos) (tCall sp dvs E t) := by
  intro pins s σ H Q I h
  refine wpAny_Call_Name_kw (ld_glob I hg hm ?_ hdb)
  refine PySem.W.callWith_K (h₀ := X.base) I.ok.mod.kin hk (thn (ha pos pins s σ H _ I h) fun us s1 ⟨vs, H1, I1, r, q⟩ => ⟨I1.kIn, ?_⟩) he hpl
  exact run_fn F hr hb hd hx I1 r q
structure Mk (K : PySem.W.Frag) (C f : Addr) : Prop where
  makes : PySem.W.makesIn K C = true
  init : PySem.W.findIn K (.ref C) "__init__" = some (some (.ref f))
  fn : PySem.W.isFn K (.ref f) = true
  kp : PySem.W.keepIn K (.ref C) = true
theorem run_make {pins : List (Addr × Obj)} {σ : St} {H : Hp} {s : Shared} {Q : VK} {us : List Value} {vs : List V} (M : Mk X.K C f) (F : FnOk X.prog X.w X.K X.mg X.base CX k f fd ps sp) (hr : Room (k + 1) X.A) (hb : Binds X.K fd ps ds) (hd : Vals dvs ds)
    (hx : Passes CX X E) (I : Inv X pins σ H s) (r : Vals vs us)
    (h : ∀ x dx, H x = none -> H dx = none -> dx ≠ x -> sp (.ref x :: (vs ++ dvs)) (upd (upd H dx (.own x)) x (.ins C dx [])) (fun v H2 => v = .non /\ Q (.ref x) H2) E) :
    wpAny (model X.prog X.w) X.A (call (.ref C) us) (EP X pins σ Q) X.xe s := by
  have hq := h (s.heap.objs.size + 1) s.heap.objs.size (I.hok.fresh (Nat.le_succ _)) (I.hok.fresh (Nat.le_refl _)) (Nat.ne_of_lt (Nat.lt_succ_self _))
  have I2 := Inv.made (C := C) I
  have r2 : Vals (V.ref (s.heap.objs.size + 1) :: (vs ++ dvs)) (Value.ref (s.heap.objs.size + 1) :: (us ++ ds)) := .cons rfl (r.append hd)
  have hl : (Value.ref (s.heap.objs.size + 1) :: us ++ ds).length = ps.length := by
    have e := r2.length
    rw [F.len _ _ _ _ hq] at e
    exact e.symm
  refine wpAny_call (make_map (f := f) I.kIn M.makes M.init (beq_iff_eq.mp M.fn) (codeAny_mono (F.run _ X.stack _ _ ⟨Value.ref (s.heap.objs.size + 1) :: us, []⟩ (Value.ref (s.heap.objs.size + 1) :: (us ++ ds)) _ _ E (hr.make C us [])
    (I2.env0.make C us []) (hb _ (Value.ref (s.heap.objs.size + 1) :: us) I2.kIn hl) r2 hq) fun r s' hq' => ?_))
  cases r with
  | error e => exact hx pins σ _ _ e s' I2 hq'
  | ok fl =>
    cases fl with
    | ret u =>
      obtain ⟨v, H', I3, rv, ev, q3⟩ := I2.after hq'
      subst ev
      exact ⟨rv, ⟨V.ref (s.heap.objs.size + 1), H', I3, rfl, q3⟩⟩
    | next => exact False.elim hq'
    | brk => exact False.elim hq'
    | cont => exact False.elim hq'
theorem pe_make (M : Mk X.K C f) (F : FnOk X.prog X.w X.K X.mg X.base CX k f fd ps sp) (hr : Room (k + 1) X.A) (hg : Gl X x) (hm : X.mg x = some (.ref C)) (hb : Binds X.K fd ps ds) (hd : Vals dvs ds) (hx : Passes CX X E)
    (ha : PA X (e :: es) t) (hdb : (x == ("__debug__" : Str)) = false := by decide) (he : starEach (e :: es) X.env = (false, eval e X.env) :: starEach es X.env := by rfl) (hpl : (backTo pos (starEach es X.env)).any (·.1) = false := by rfl) :
    PE X (.Call (.Name x p) (e :: es) [] pos) (tMake C sp dvs E t) := by
  intro pins s σ H Q I h
  refine wpAny_Call_Name_kw (ld_glob I hg hm ?_ hdb)
  refine PySem.W.callWith_K (h₀ := X.base) I.ok.mod.kin M.kp (thn (ha pos pins s σ H _ I h) fun us s1 ⟨vs, H1, I1, r, q⟩ => ⟨I1.kIn, ?_⟩) he hpl
  exact run_make M F hr hb hd hx I1 r q
end
section
variable {X : Cx} {CX : CXT} {k : Nat} {f C : Addr} {fd : FuncData} {ps ks : List Str} {sp : Sp} {E : XK} {x m : Str} {p pos apos kpos : Pos} {e o : Expr} {es : List Expr} {kws : List Keyword} {te ta : TE} {t tk : TA} {nm : Option Str}
variable {g : List Value -> List Value -> List Value} {gV : List V -> List V -> List V}
end
structure FnScope (N P : List Str) (sc : Scope) : Prop where
  kind : sc.kind = .function
  co : sc.isCoroutine = false
  gen : sc.isGenerator = false
  nd : N.Nodup
  pre : N.take P.length = P
  par : ∀ x ∈ P, sc.names.lookup x = some .local \/ sc.names.lookup x = some .cell
  nofree : ∀ y ∈ sc.names, y.2 ≠ .free
theorem bindL_out {kindOf : Str -> Option NameKind} {x : Str} : ∀ {binds : List (Str × Value)} {m : Str -> Option Value}, (∀ v, (x, v) ∉ binds) -> bindL kindOf binds m x = m x
  | [], _, _ => rfl
  | (n, v) :: r, m, h => by
    unfold bindL
    rw [bindL_out fun w hw => h w (List.mem_cons_of_mem _ hw)]
    split
    · have : x ≠ n := by rintro rfl; exact h v List.mem_cons_self
      simp [this]
    · rfl
theorem bindC_out {kindOf : Str -> Option NameKind} {x : Str} : ∀ {binds : List (Str × Value)} {m : Str -> Option Value}, (∀ v, (x, v) ∉ binds) -> bindC kindOf binds m x = m x
  | [], _, _ => rfl
  | (n, v) :: r, m, h => by
    unfold bindC
    rw [bindC_out fun w hw => h w (List.mem_cons_of_mem _ hw)]
    split
    · rfl
    · have : x ≠ n := by rintro rfl; exact h v List.mem_cons_self
      simp [this]
theorem bindL_get {kindOf : Str -> Option NameKind} {x : Str} {v : Value} : ∀ {P : List Str} {vs : List Value} {i : Nat} {m : Str -> Option Value}, P.Nodup -> P[i]? = some x -> vs[i]? = some v -> kindOf x = some .local ->
    bindL kindOf (P.zip vs) m x = some v
  | [], _, _, _, _, h, _, _ => by simp at h
  | _ :: _, [], _, _, _, _, h, _ => by simp at h
  | p :: P, w :: vs, 0, m, nd, h1, h2, hk => by
    simp at h1 h2; subst h1; subst h2
    show bindL kindOf ((p, w) :: P.zip vs) m p = _
    unfold bindL
    rw [bindL_out fun v hv => (List.nodup_cons.mp nd).1 (List.of_mem_zip hv).1, if_pos hk]
    simp
  | p :: P, w :: vs, i + 1, m, nd, h1, h2, hk => by
    show bindL kindOf ((p, w) :: P.zip vs) m x = _
    unfold bindL
    exact bindL_get (i := i) (List.nodup_cons.mp nd).2 (by simpa using h1) (by simpa using h2) hk
theorem bindC_get {kindOf : Str -> Option NameKind} {x : Str} {v : Value} : ∀ {P : List Str} {vs : List Value} {i : Nat} {m : Str -> Option Value}, P.Nodup -> P[i]? = some x -> vs[i]? = some v -> kindOf x ≠ some .local ->
    bindC kindOf (P.zip vs) m x = some v
  | [], _, _, _, _, h, _, _ => by simp at h
  | _ :: _, [], _, _, _, _, h, _ => by simp at h
  | p :: P, w :: vs, 0, m, nd, h1, h2, hk => by
    simp at h1 h2; subst h1; subst h2
    show bindC kindOf ((p, w) :: P.zip vs) m p = _
    unfold bindC
    rw [bindC_out fun v hv => (List.nodup_cons.mp nd).1 (List.of_mem_zip hv).1, if_neg hk]
    simp
  | p :: P, w :: vs, i + 1, m, nd, h1, h2, hk => by
    show bindC kindOf ((p, w) :: P.zip vs) m x = _
    unfold bindC
    exact bindC_get (i := i) (List.nodup_cons.mp nd).2 (by simpa using h1) (by simpa using h2) hk
def start (N : List Str) (vs : List V) : St := vs.map some ++ List.replicate (N.length - vs.length) none
def cxOf (CX : CXT) (P : Program) (w : World) (K : PySem.W.Frag) (mg : Str -> Option Value) (base : Heap) (N : List Str) (qual : Str) (scope : Scope) (f : Addr) (cd : Value) (A : Around) (outer : List Env) (s : Shared) (H : Hp) (E : XK) : Cx where
  prog := P
  w := w
  K := K
  mg := mg
  base := base
  A := A.deeper (envOfC qual scope s.heap.objs.size f cd)
  N := N
  s₀ := s
  H₀ := H
  env := envOfC qual scope s.heap.objs.size f cd
  outer := outer
  stack := envOfC qual scope s.heap.objs.size f cd :: outer
  ex := []
  calm := true
  fn := fun _ => true
  pn := []
  xe := fun e s' => wpAny (model P w) (A.deeper (envOfC qual scope s.heap.objs.size f cd)) (leaving (envOfC qual scope s.heap.objs.size f cd) e) (fun _ s'' => CX outer H s E e s'') (fun e' s'' => CX outer H s E e' s'') s'
theorem cell_has {sc : Scope} {n : Nat} {x : Str} (h : sc.names.lookup x = some .cell) : ∃ c, (cellsFrom n sc.names []).lookup x = some c := by
  have q := PySem.W.cellsFrom_some sc.names n [] (.inl h)
  exact Option.isSome_iff_exists.mp q
theorem inv_start {CX : CXT} {P : Program} {w : World} {K : PySem.W.Frag} {mg : Str -> Option Value} {base : Heap} {N ps : List Str} {qual : Str} {scope : Scope} {f : Addr} {cd : Value} {A : Around} {outer : List Env} {s s1 : Shared} {H : Hp} {E : XK} {us : List Value} {vs : List V}
    (S : FnScope N ps scope) (hd : A.handled = none) (e0 : Env0 P w K mg base A outer s H) (hl : vs.length = ps.length) (r : Vals vs us)
    (x : InCallC s s.heap.objs.size (bindL (envOfC qual scope s.heap.objs.size f cd).kindOf (ps.zip us) fun _ => none) (cellsFrom (s.heap.objs.size + 1) scope.names []) (bindC (envOfC qual scope s.heap.objs.size f cd).kindOf (ps.zip us) fun _ => none) s1) :
    Inv (cxOf CX P w K mg base N qual scope f cd A outer s H E) [] (start N vs) H s1 := by
  have hpl : ps.length <= N.length := by have := congrArg List.length S.pre; rw [List.length_take] at this; lia
  obtain ⟨h1, tk, rfl, hk⟩ := x.done
  have noA : ∀ b : Addr, b ∉ (cxOf CX P w K mg base N qual scope f cd A outer s H E).ex := fun b z => absurd (show b ∈ ([] : List Addr) from z) (by simp)
  refine ⟨⟨e0.mod, S.kind, rfl, rfl, Nat.le_refl _, fun y z c h1 h2 => ?_, fun y hy => ?_, fun y c _ h => ?_, fun _ => hd, Around.frames_deeper e0.frames, .inr ⟨rfl, rfl⟩, fun b z => absurd z (noA b), e0.bs, e0.bsz, fun b _ _ => noA b, fun b z => absurd z (noA b), e0.funs, e0.frf⟩,
    rfl, e0.bare, Un.kept hk, ⟨_, x.toInCall.ns, fun i y v h1 h2 h3 => ?_⟩, fun y c h => ⟨_, x.cell y c h⟩, e0.hok.fresh (Nat.le_refl _), fun y c h => ?_, fun p hp => absurd (show p ∈ ([] : List (Addr × Obj)) from hp) (by simp), e0.hok.kept hk, ?_⟩
  · exact name_of_addr x.apart (PySem.mem_of_lookup h1) (PySem.mem_of_lookup h2)
  · have hy : scope.names.lookup y = some .cell \/ scope.names.lookup y = some .free := hy
    rcases hy with hy | hy
    · exact cell_has hy
    · exact absurd rfl (S.nofree _ (PySem.mem_of_lookup hy))
  · exact Nat.le_of_lt (x.above y c (PySem.mem_of_lookup h))
  · have hi : i < vs.length := by
      unfold start at h2
      by_cases hi : i < vs.length
      · exact hi
      · rw [List.getElem?_append_right (by simpa using hi)] at h2
        rw [List.getElem?_replicate] at h2
        split at h2 <;> cases h2
    have ha : vs[i]? = some v := by
      unfold start at h2
      rw [List.getElem?_append_left (by simpa using hi), List.getElem?_map] at h2
      cases e : vs[i]? with
      | none => rw [e] at h2; cases h2
      | some a => rw [e] at h2; cases h2; rfl
    obtain ⟨u, hu, rv⟩ := r.get ha
    have hp : ps[i]? = some y := by
      rw [<- S.pre, List.getElem?_take_of_lt (by lia)]; exact h1
    have ndP : ps.Nodup := by rw [<- S.pre]; exact S.nd.sublist (List.take_sublist _ _)
    refine ⟨u, rv, ?_⟩
    rcases S.par y (List.mem_of_getElem? hp) with k | k
    · exact .inl ⟨k, bindL_get ndP hp hu k⟩
    · obtain ⟨c, e⟩ := cell_has (n := s.heap.objs.size + 1) k
      refine .inr ⟨.inl k, c, e, ?_⟩
      have q := x.cell y c e
      rw [bindC_get ndP hp hu (by show scope.names.lookup y ≠ _; rw [k]; decide)] at q
      exact q
  · exact e0.hok.fresh (Nat.le_of_lt (x.above y c (PySem.mem_of_lookup h)))
  · unfold start
    show _ = N.length
    rw [List.length_append, List.length_map, List.length_replicate]
    lia
theorem fn_of {CX : CXT} {P : Program} {w : World} {K : PySem.W.Frag} {mg : Str -> Option Value} {base : Heap} {k : Nat} {f : Addr} {name qual : Str} {params : Arguments} {body : List Stmt} {scope : Scope} {dV kV doc pm cdv ct oc : Value} {an od : Option Addr}
    {osl : Array (Option Value)} {N ps : List Str} {sp : Sp} (lk : K.lookup f = some ⟨oc, od, .func (PySem.W.fnOf name qual params body scope dV kV doc pm an cdv ct), osl⟩) (hcd : PySem.W.codeIn K cdv qual = true) (S : FnScope N ps scope)
    (len : ∀ vs H Q E, sp vs H Q E -> vs.length = ps.length)
    (hbody : ∀ (A : Around) (outer : List Env) (s : Shared) (H : Hp) (vs : List V) (Q : VK) (E : XK), Room k (A.deeper (envOfC qual scope s.heap.objs.size f cdv)) -> sp vs H Q E ->
      ∃ t, PSs (cxOf CX P w K mg base N qual scope f cdv A outer s H E) body t /\ t { nx := fun _ H' => Q .non H', rt := Q } (start N vs) H) :
    FnOk P w K mg base CX (k + 1) f (PySem.W.fnOf name qual params body scope dV kV doc pm an cdv ct) ps sp := by
  refine ⟨len, fun A outer s H args us vs Q E hr e0 hb r hsp => ?_⟩
  have hl := len _ _ _ _ hsp
  have KX : K.In s.heap := e0.mod.kin.keeps fun b o e => (e0.bs b o e).1
  have lim : s.heap.NoLimit := e0.mod.nolimit.keeps fun b o e => (e0.bs b o e).1
  have hkind : ∀ y ∈ ps.zip us, scope.names.lookup y.1 = some .local \/ (scope.names.lookup y.1 = some .cell /\ ((cellsFrom (s.heap.objs.size + 1) scope.names []).lookup y.1).isSome = true) := fun ⟨n, v⟩ hy => by
    rcases S.par n (List.of_mem_zip hy).1 with q | q
    · exact .inl q
    · exact .inr ⟨q, PySem.W.cellsFrom_some _ _ _ (.inl q)⟩
  refine codeAny_call_function hr.depth (KX _ _ lk) rfl S.co S.gen rfl (PySem.W.codeRec_of KX hcd) (hb _ _ _ _ ?_)
  refine wpAny_newFunctionEnv_cells S.kind hkind fun env he s1 x => ?_
  subst he
  refine ⟨lim.keeps x.toInCall.keep, codeAny_func ?_⟩
  obtain ⟨t, ht, hq⟩ := hbody A outer s H vs Q E (hr.deeper _) hsp
  have I : Inv (cxOf CX P w K mg base N qual scope f cdv A outer s H E) [] (start N vs) H s1 := inv_start S hr.hd e0 hl r x
  refine wpAny_mono (ht [] s1 (start N vs) H _ I hq) (fun fl s' hs => ?_) fun e s' hs => hs
  have fin : ∀ {σ' : St} {H' : Hp} {v : V} {u : Value}, Inv (cxOf CX P w K mg base N qual scope f cdv A outer s H E) [] σ' H' s' -> RelV v u -> Q v H' -> CE outer P w H s Q u s' :=
    fun {σ' H' v u} J rv q => ⟨v, H', J.os, J.bare, J.base, J.hok, rv, q⟩
  cases fl with
  | ret u =>
    obtain ⟨v, σ', H', J, rv, q⟩ := hs
    exact fin J rv q
  | next =>
    obtain ⟨σ', H', J, q⟩ := hs
    exact fin (v := V.non) (u := Value.none) J rfl q
  | brk =>
    obtain ⟨_, _, _, q⟩ := hs
    exact False.elim q
  | cont =>
    obtain ⟨_, _, _, q⟩ := hs
    exact False.elim q
section
variable {X : Cx} {x : Str} {p pos : Pos} {e : Expr} {es : List Expr} {t : TA} {id T : String} {r : List V -> Hp -> VK -> Prop}
def tCB (r : List V -> Hp -> VK -> Prop) (t : TA) : TE := fun σ H Q => t σ H fun vs H1 => r vs H1 Q
theorem pe_callB (hc : CallR X (.builtin id) r) (hg : Gl X x) (hm : X.mg x = none) (hv : bootBuiltins x = some (.builtin id)) (ha : PA X (e :: es) t) (hn : x ≠ "__name__" := by decide) (hdb : (x == ("__debug__" : Str)) = false := by decide)
    (he : starEach (e :: es) X.env = (false, eval e X.env) :: starEach es X.env := by rfl) (hpl : (backTo pos (starEach es X.env)).any (·.1) = false := by rfl) : PE X (.Call (.Name x p) (e :: es) [] pos) (tCB r t) := by
  intro pins s σ H Q I h
  refine wpAny_Call_Name_kw (ld_blt I hg hm hv ?_ hn hdb)
  exact PyProof.Rows.callWith_builtin1 (thn (ha pos pins s σ H _ I h) fun us s1 ⟨vs, H1, I1, r1, q1⟩ => hc pins s1 σ H1 vs us Q I1 r1 q1) he hpl
theorem pe_callTy (hc : CallR X (.type T) r) (hg : Gl X x) (hm : X.mg x = none) (hv : bootBuiltins x = some (.type T)) (ha : PA X (e :: es) t) (hn : x ≠ "__name__" := by decide) (hdb : (x == ("__debug__" : Str)) = false := by decide)
    (he : starEach (e :: es) X.env = (false, eval e X.env) :: starEach es X.env := by rfl) (hpl : (backTo pos (starEach es X.env)).any (·.1) = false := by rfl) : PE X (.Call (.Name x p) (e :: es) [] pos) (tCB r t) := by
  intro pins s σ H Q I h
  refine wpAny_Call_Name_kw (ld_blt I hg hm hv ?_ hn hdb)
  exact PyProof.Rows.callWith_type1 (thn (ha pos pins s σ H _ I h) fun us s1 ⟨vs, H1, I1, r1, q1⟩ => hc pins s1 σ H1 vs us Q I1 r1 q1) he hpl
end
end L2
namespace HT
open PySem PyProof.Rows
def lexLt : List Int -> List Int -> Bool
  | [], [] => false
  | [], _ :: _ => true
  | _ :: _, [] => false
  | x :: xs, y :: ys => if x = y then lexLt xs ys else decide (x < y)
theorem lexLt_cons (x y : Int) (xs ys : List Int) : lexLt (x :: xs) (y :: ys) = if x = y then lexLt xs ys else decide (x < y) := rfl
theorem lexLt_nil_nil : lexLt [] [] = false := rfl
theorem lexLt_nil_cons (y : Int) (ys : List Int) : lexLt [] (y :: ys) = true := rfl
theorem lexLt_cons_nil (x : Int) (xs : List Int) : lexLt (x :: xs) [] = false := rfl
theorem eqAt_int (A : Around) (s : Shared) (a : Int) (t : Tok) (c : Int) (u : Tok) : ∃ e, SeqAt.EqAt A s (.int a t) (.int c u) e /\ (e = true ↔ a = c) :=
  ⟨(a == c), SeqAt.EqAt.int_int a t c u, by simp⟩
theorem rcLt_int (A : Around) (s : Shared) (a : Int) (t : Tok) (c : Int) (u : Tok) (prog : Program) (w : World) (E : Value -> Shared -> Prop) (Q : Value -> Shared -> Prop) (h : Q (.bool (decide (a < c))) s) :
    wpAny (model prog w) A (richCompare .Lt (.int a t) (.int c u)) Q E s :=
  (PyProof.Rows.lt_int h : wpAny (model prog w) A (compareOp .Lt (.int a t) (.int c u)) Q E s)
section
open PySem.SeqAt
open PySem.AutoSeq1 (wpAny_loadPart')
open PySem.MeetsSeq PySem.MeetsSeq2 PySem.MeetsSeq3
theorem tuple_lt_ints (l b : Addr) (items items2 : Array Value) (n n2 : Nat) (dd dd2 : Option Addr) (sl sl2 : Array (Option Value)) (ns ms : List Int) (hi : IntsAre items.toList ns) (hj : IntsAre items2.toList ms) :
    Meets (Builtin.«tuple.__lt__» ⟨[.ref l, .ref b], []⟩)
      (fun _ R s => s.heap.get? l = some { cls := .type "tuple", dict := dd, data := .seq items n, slots := sl } /\ s.heap.get? b = some { cls := .type "tuple", dict := dd2, data := .seq items2 n2, slots := sl2 } /\
        R (.ok (.ret (.bool (lexLt ns ms)))) s) :=
  .of_wp fun prog w A R s h => by
    obtain ⟨hp, g, d, tk, os⟩ := s; obtain ⟨hl, hb, h⟩ := h
    have f2 := AutoSeq1.sub_tuple_tuple
    have z1 : items.size = ns.length := by rw [<- hi.length]; simp
    have z2 : items2.size = ms.length := by rw [<- hj.length]; simp
    wp_walk using wpAny_loadPart' hl, wpAny_loadPart' hb, wpAny_forIn_list _ (fun rest b s' => b.1 = none /\ s' = ⟨hp, g, d, tk, os⟩ /\ ∃ (vs ws : List Value) (ns' ms' : List Int), rest = vs.zip ws /\
      IntsAre vs ns' /\ IntsAre ws ms' /\ ns'.length + items2.size = ms'.length + items.size /\ R (.ok (.ret (.bool (lexLt ns' ms')))) ⟨hp, g, d, tk, os⟩) _
    case turn =>
      rintro ⟨y, x⟩ rest b s' ⟨hb', rfl, vs, ws, ns', ms', hz, hvi, hwi, hlen, hR⟩
      cases hvi with
      | nil => rw [List.zip_nil_left] at hz; cases hz
      | cons a t hvi' =>
        cases hwi with
        | nil => rw [List.zip_nil_right] at hz; cases hz
        | cons c u hwi' =>
          rw [List.zip_cons_cons] at hz
          injection hz with hyx hrest
          injection hyx with hy hx
          subst hy hx
          rw [lexLt_cons] at hR
          simp only [List.length_cons] at hlen
          obtain ⟨e, he, hiff⟩ := eqAt_int A.in1 ⟨hp, g, d, tk, os⟩ a t c u
          refine wpAny_bind (he prog w _ _ ?_)
          cases e with
          | true =>
            rw [if_pos (hiff.mp rfl)] at hR
            wp_walk
            exact ⟨rfl, rfl, _, _, _, _, hrest, hvi', hwi', by lia, hR⟩
          | false =>
            rw [if_neg (fun q => absurd (hiff.mpr q) Bool.false_ne_true)] at hR
            have hri := rcLt_int A.in1 ⟨hp, g, d, tk, os⟩ a t c u prog w
            wp_walk using hri
            exact ⟨_, rfl, by simpa using hR⟩
    case fin =>
      rintro ⟨b1, b2⟩ s' ⟨hb', rfl, vs, ws, ns', ms', hz, hvi, hwi, hlen, hR⟩
      simp only at hb'
      subst hb'
      have hv : lexLt ns' ms' = decide (items.size < items2.size) := by
        cases hvi with
        | nil =>
          cases hwi with
          | nil =>
            simp only [List.length_nil] at hlen
            rw [lexLt_nil_nil]
            exact (decide_eq_false (by lia)).symm
          | cons c u hw =>
            simp only [List.length_nil, List.length_cons] at hlen
            rw [lexLt_nil_cons]
            exact (decide_eq_true (by lia)).symm
        | cons a t hv =>
          cases hwi with
          | nil =>
            simp only [List.length_nil, List.length_cons] at hlen
            rw [lexLt_cons_nil]
            exact (decide_eq_false (by lia)).symm
          | cons c u hw =>
            rw [List.zip_cons_cons] at hz
            cases hz
      rw [hv] at hR
      wp_walk
      exact ⟨_, rfl, by simpa [Builtin.Tuple.tupleCompareSizes] using hR⟩
    case h =>
      exact ⟨rfl, rfl, items.toList, items2.toList, ns, ms, rfl, hi, hj, by lia, h⟩
end
section
variable {prog : Program} {w : World} {A : Around} {E : Value -> Shared -> Prop} {s : Shared}
theorem lt_tupInts {l b : Addr} {items items2 : Array Value} {ns ms : List Int} {Q : Value -> Shared -> Prop} (hl : IsTup s.heap l items) (hb : IsTup s.heap b items2) (hi : IntsAre items.toList ns) (hj : IntsAre items2.toList ms)
    (hu : A.units < cLine) (h : Q (.bool (lexLt ns ms)) s) : wpAny (model prog w) A (compareOp .Lt (.ref l) (.ref b)) Q E s := by
  obtain ⟨⟨cls, dd, data, sl⟩, ho, hc, n, hd⟩ := id hl
  obtain ⟨⟨cls2, dd2, data2, sl2⟩, ho2, hc2, n2, hd2⟩ := id hb
  simp only at hc hd hc2 hd2
  subst hc hd hc2 hd2
  exact richCompare_meets_room (op := .Lt) ⟨_, ho, rfl⟩ ⟨_, ho2, rfl⟩ PySem.F.slot_tuple_lt PySem.F.entry_tuple_lt (PySem.F.args_tuple_lt_2 _ _) (tuple_lt_ints l b items items2 n n2 dd dd2 sl sl2 ns ms hi hj)
    ⟨ho, ho2, show Value.bool (lexLt ns ms) ≠ Value.notImplemented /\ Q (.bool (lexLt ns ms)) s from ⟨(fun x => nomatch x), h⟩⟩ hu
theorem cat_tup {t b : Addr} {vs ws : List Value} {Q : Value -> Shared -> Prop} (ht : IsTup s.heap t vs.toArray) (hb : IsTup s.heap b ws.toArray) (hv : vs ≠ [])
    (h1 : ws = [] -> Q (.ref t) s) (h2 : ws ≠ [] -> Q (.ref s.heap.objs.size) { s with heap := s.heap.push { cls := .type "tuple", data := .seq (vs ++ ws).toArray } })
    (hsz : vs.length + ws.length <= sizeLine) : wpAny (model prog w) A (binaryOp .Add (.ref t) (.ref b)) Q E s := by
  obtain ⟨⟨cls, dd, data, sl⟩, ho, hc, n, hd⟩ := id ht
  obtain ⟨⟨cls2, dd2, data2, sl2⟩, ho2, hc2, n2, hd2⟩ := id hb
  simp only at hc hd hc2 hd2
  subst hc hd hc2 hd2
  have e : vs.toArray ++ ws.toArray = (vs ++ ws).toArray := by simp
  by_cases hw : ws = []
  · exact concat_meets ⟨_, ho, rfl⟩ ⟨_, ho2, rfl⟩ noFill_tuple_add seq_tuple_add PySem.F.slot_tuple_add PySem.F.entry_tuple_add (PySem.F.args_tuple_add_2 _ _)
      (tuple_addW1 t b vs.toArray ws.toArray n n2 dd dd2 sl sl2 (by simpa using hv) (by simp [hw])) ⟨ho, ho2, h1 hw⟩
  · refine concat_meets ⟨_, ho, rfl⟩ ⟨_, ho2, rfl⟩ noFill_tuple_add seq_tuple_add PySem.F.slot_tuple_add PySem.F.entry_tuple_add (PySem.F.args_tuple_add_2 _ _)
      (tuple_addW2 t b vs.toArray ws.toArray n n2 dd dd2 sl sl2 (by simpa using hv) (by simpa using hw) (by rw [List.size_toArray, List.size_toArray]; exact hsz)) ⟨ho, ho2, ?_⟩
    rw [e]
    exact h2 hw
def sIx (n d : Nat) : Option Int -> Nat
  | none => d
  | some v => if v < 0 then (v + (n : Int)).toNat else min v.toNat n
theorem sIx_nat (n d k : Nat) : sIx n d (some (k : Int)) = min k n := by
  show (if (k : Int) < 0 then ((k : Int) + (n : Int)).toNat else min (k : Int).toNat n) = min k n
  rw [if_neg (by lia), Int.toNat_natCast]
end
end HT
namespace L2
open PySem PySem.Spec PyProof.Rows
abbrev TO := St -> Hp -> (Option Int -> Hp -> Prop) -> Prop
def PO (X : Cx) (e : Option Expr) (t : TO) : Prop :=
  ∀ (pins : List (Addr × Obj)) (s : Shared) (σ : St) (H : Hp) (Q : Option Int -> Hp -> Prop), Inv X pins σ H s -> t σ H Q ->
    wpAny (model X.prog X.w) X.A (evalPart e X.env) (fun u s' => ∃ o H', Inv X pins σ H' s' /\ IsPart u o /\ Q o H') X.xe s
def tPart (t : TE) : TO := fun σ H Q => t σ H fun x H1 => ∃ i, x = .int i /\ Q (some i) H1
theorem intsAre_of {ns : List Int} : ∀ {us : List Value}, Vals (ns.map V.int) us -> IntsAre us ns := by
  induction ns with
  | nil => intro us r; rw [List.map_nil] at r; cases r; exact .nil
  | cons n ns ih =>
    intro us r
    rw [List.map_cons] at r
    cases r with
    | cons r1 r2 =>
      obtain ⟨t, e⟩ := r1
      subst e
      exact .cons n t (ih r2)
section
variable {X : Cx} {e : Expr} {te : TE} {lo hi : Option Expr} {tl th : TO} {pos p2 : Pos}
theorem po_some (h : PE X e te) : PO X (some e) (tPart te) := by
  intro pins s σ H Q I hw
  rw [evalPart_some]
  refine thn (h pins s σ H _ I hw) fun u s1 ⟨x, H1, I1, r1, q1⟩ => ?_
  obtain ⟨i, rfl, q⟩ := q1
  obtain ⟨t, rfl⟩ := r1
  exact ⟨some i, H1, I1, .int i t, q⟩
def SlR (X : Cx) (r : V -> Option Int -> Option Int -> Hp -> VK -> Prop) : Prop :=
  ∀ (pins : List (Addr × Obj)) (s : Shared) (σ : St) (H : Hp) (x : V) (v vl vu : Value) (lo hi : Option Int) (sl : Addr) (Q : VK), Inv X pins σ H s -> RelV x v -> s.heap.IsSliceOf sl vl vu .none -> IsPart vl lo -> IsPart vu hi -> r x lo hi H Q ->
    ∃ T id, typeLookup (.type T) "__getitem__" = pure (some (.builtin id)) /\ s.TypeIs v T /\ wpAny (model X.prog X.w) X.A (getItem v (.ref sl)) (EP X pins σ Q) X.xe s
def tSl (r : V -> Option Int -> Option Int -> Hp -> VK -> Prop) (te : TE) (tl th : TO) : TE := fun σ H Q => te σ H fun x H1 => tl σ H1 fun l H2 => th σ H2 fun u H3 => r x l u H3 Q
theorem pe_slice {r : V -> Option Int -> Option Int -> Hp -> VK -> Prop} (hr : SlR X r) (he : PE X e te) (hl : PO X lo tl) (hu : PO X hi th) : PE X (.Subscript e (.Slice lo hi none p2) pos) (tSl r te tl th) := by
  intro pins s σ H Q I h
  refine Subscript_ (thn (he pins s σ H _ I h) fun v s1 ⟨x, H1, I1, r1, q1⟩ => ?_)
  refine wpAny_Slice (thn (hl pins s1 σ H1 _ I1 q1) fun vl s2 ⟨l, H2, I2, pl, q2⟩ => thn (hu pins s2 σ H2 _ I2 q2) fun vu s3 ⟨u, H3, I3, pu, q3⟩ => ?_)
  rw [evalPart_none]
  refine wpAny_pure ?_
  have I4 : Inv X pins σ H3 { s3 with heap := s3.heap.push { cls := .type "slice", data := .fields #[vl, vu, .none] } } := I3.kept (t' := s3.toks) fun b ob q => Heap.get?_push_of_some _ q
  obtain ⟨T, id, hT, ht, hg⟩ := hr pins { s3 with heap := s3.heap.push { cls := .type "slice", data := .fields #[vl, vu, .none] } } σ H3 x v vl vu l u s3.heap.objs.size Q I4 r1 (Heap.IsSliceOf.new ..) pl pu q3
  show wpAny (model X.prog X.w) X.A (subscriptTail e (.Slice lo hi none p2) v (.ref s3.heap.objs.size)) (EP X pins σ Q) X.xe { s3 with heap := s3.heap.push { cls := .type "slice", data := .fields #[vl, vu, .none] } }
  exact tail_any (ops := [.ref s3.heap.objs.size, v]) ht hT hg (by with_unfolding_all rfl)
def cutV (xs : List V) (lo hi : Option Int) : List V := (xs.drop (HT.sIx xs.length 0 lo)).take (HT.sIx xs.length xs.length hi - HT.sIx xs.length 0 lo)
theorem cutV_length (xs : List V) (lo hi : Option Int) : (cutV xs lo hi).length <= xs.length := by
  unfold cutV
  rw [List.length_take, List.length_drop]
  lia
def rCatT (K : PySem.W.Frag) : R2 := fun x y H Q => ∃ a b xs ys, x = .ref a /\ y = .ref b /\ SqT K H a xs /\ SqT K H b ys /\ xs ≠ [] /\ xs.length + ys.length <= sizeLine /\
  (ys = [] -> Q (.ref a) H) /\ (ys ≠ [] -> ∀ p, H p = none -> Q (.ref p) (upd H p (.tup (xs ++ ys))))
theorem Vals.nil_iff {xs : List V} {us : List Value} (r : Vals xs us) : us = [] ↔ xs = [] := by
  cases r with
  | nil => simp
  | cons _ _ => simp
theorem op_catT : OpR X (binaryOp .Add) (rCatT X.K) := by
  intro pins s σ H x y v u Q I rx ry h
  obtain ⟨a, b, xs, ys, rfl, rfl, ha, hb, hx, hz, q1, q2⟩ := h
  cases rx
  cases ry
  obtain ⟨its, r1, p1, _⟩ := I.tuple ha
  obtain ⟨its2, r2, p2, _⟩ := I.tuple hb
  refine HT.cat_tup p1 p2 (fun z => hx (r1.nil_iff.mp z)) (fun z => ⟨.ref a, H, I, rfl, q1 (r2.nil_iff.mp z)⟩) (fun z => ?_) (by rw [<- r1.length, <- r2.length]; exact hz)
  refine ⟨.ref s.heap.objs.size, _, I.laid (t' := s.toks) (o := .tup (xs ++ ys)) (fun b ob q => Heap.get?_push_of_some _ q) (Nat.le_refl _) ?_, rfl, q2 (fun w => z (r2.nil_iff.mpr w)) _ (I.hok.fresh (Nat.le_refl _))⟩
  exact ⟨by rw [List.length_append]; exact hz, _, r1.append r2, IsTup.new _ _⟩
end
def ixN (n : Nat) (i : Int) : Option Nat := if 0 <= i then (if i < n then some i.toNat else none) else if -(n : Int) <= i then some (i + n).toNat else none
def atI {α : Type} (xs : List α) (i : Int) : Option α := (ixN xs.length i).bind fun j => xs[j]?
theorem ixN_seq {n : Nat} {i : Int} {j : Nat} (h : ixN n i = some j) : seqIndex? i n = some j /\ j < n /\ -(n : Int) <= i /\ i < n := by
  unfold ixN at h
  by_cases h0 : 0 <= i
  · rw [if_pos h0] at h
    by_cases h1 : i < n
    · rw [if_pos h1] at h
      have e : i.toNat = j := Option.some.inj h
      exact ⟨by rw [seqIndex_of h0 h1, e], by lia, by lia, h1⟩
    · rw [if_neg h1] at h; cases h
  · rw [if_neg h0] at h
    by_cases h1 : -(n : Int) <= i
    · rw [if_pos h1] at h
      have e : (i + n).toNat = j := Option.some.inj h
      exact ⟨by rw [seqIndex_neg (by lia) h1, e], by lia, h1, by lia⟩
    · rw [if_neg h1] at h; cases h
theorem atI_get {α : Type} {xs : List α} {i : Int} {v : α} (h : atI xs i = some v) : ∃ j, seqIndex? i xs.length = some j /\ xs[j]? = some v /\ j < xs.length /\ -(xs.length : Int) <= i /\ i < xs.length := by
  unfold atI at h
  cases e : ixN xs.length i with
  | none => rw [e] at h; cases h
  | some j =>
    rw [e] at h
    obtain ⟨h1, h2, h3, h4⟩ := ixN_seq e
    exact ⟨j, h1, h, h2, h3, h4⟩
theorem atI_nat {α : Type} {xs : List α} {j : Nat} {v : α} (h : xs[j]? = some v) : atI xs (j : Int) = some v := by
  have hj : j < xs.length := (List.getElem?_eq_some_iff.mp h).1
  have e : ixN xs.length (j : Int) = some j := by
    unfold ixN
    rw [if_pos (by lia), if_pos (by lia)]; simp
  unfold atI; rw [e]; exact h
def PlainIx (b : Expr) : Prop := ∀ o i, subscripted b false o i = operate [o, i] (getItem o i)
def IxR (X : Cx) (r : R2) : Prop :=
  ∀ (value slice : Expr) (pins : List (Addr × Obj)) (s : Shared) (σ : St) (H : Hp) (x y : V) (v u : Value) (Q : VK), Inv X pins σ H s -> RelV x v -> RelV y u -> r x y H Q ->
    subscripted slice false v u = operate [v, u] (getItem v u) -> wpAny (model X.prog X.w) X.A (subscriptTail value slice v u) (EP X pins σ Q) X.xe s
def MtR (X : Cx) (id : String) (r : V -> List V -> Hp -> VK -> Prop) : Prop :=
  ∀ (pins : List (Addr × Obj)) (s : Shared) (σ : St) (H : Hp) (x : V) (xs : List V) (v : Value) (us : List Value) (Q : VK), Inv X pins σ H s -> RelV x v -> Vals xs us -> r x xs H Q ->
    wpAny (model X.prog X.w) X.A (call (.builtin id) (v :: us)) (EP X pins σ Q) X.xe s
section
variable {X : Cx} {a b : Expr} {ta tb : TE} {pos : Pos}
theorem pe_ix {r : R2} (hr : IxR X r) (ha : PE X a ta) (hb : PE X b tb) (hs : PlainIx b) : PE X (.Subscript a b pos) (tOp r ta tb) := by
  intro pins s σ H Q I h
  exact Subscript_ (binT ha hb I h fun v u s2 x y H2 I2 rx ry q => hr a b pins s2 σ H2 x y v u Q I2 rx ry q (hs _ _))
def rIxL (K : PySem.W.Frag) : R2 := fun x y H Q => ∃ p xs i v, x = .ref p /\ y = .int i /\ SqL K H p xs /\ atI xs i = some v /\ Q v H
def rIxT (K : PySem.W.Frag) : R2 := fun x y H Q => ∃ p xs i v, x = .ref p /\ y = .int i /\ SqT K H p xs /\ atI xs i = some v /\ Q v H
theorem ix_list : IxR X (rIxL X.K) := by
  intro value slice pins s σ H x y v u Q I rx ry h hs
  obtain ⟨p, xs, i, z, rfl, rfl, hq, he, q⟩ := h
  cases rx
  obtain ⟨t, rfl⟩ := ry
  obtain ⟨its, r, pl, hz⟩ := I.list hq
  obtain ⟨j, h1, h2, h3, h4, h5⟩ := atI_get he
  obtain ⟨w, ew, rw'⟩ := r.get h2
  have hl := r.length
  have hn := line63
  have fin : EP X pins σ Q w s := ⟨z, H, I, rw', q⟩
  by_cases h0 : 0 <= i
  · have hj : i.toNat = j := by
      rw [seqIndex_of h0 h5] at h1
      exact Option.some.inj h1
    exact item_listR pl.isList h0 (by lia) (by rw [hj]; simpa using ew) fin hs
  · have hj : (i + (its.toArray.size : Int)).toNat = j := by
      rw [seqIndex_neg (by lia) h4] at h1
      rw [List.size_toArray, <- hl]
      exact Option.some.inj h1
    exact subscriptTail_builtinR (x := w) pl.isList.typeIs slot_list_getitem.lookup
      (wpAny_getItem_list_neg (Q := fun r s' => r = w /\ EP X pins σ Q r s') pl.isList (by lia) (by rw [List.size_toArray] <;> lia) (by lia) (by rw [hj]; simpa using ew) ⟨rfl, fin⟩) hs
theorem ix_tup : IxR X (rIxT X.K) := by
  intro value slice pins s σ H x y v u Q I rx ry h hs
  obtain ⟨p, xs, i, z, rfl, rfl, hq, he, q⟩ := h
  cases rx
  obtain ⟨t, rfl⟩ := ry
  obtain ⟨its, r, pl, hz⟩ := I.tuple hq
  obtain ⟨j, h1, h2, h3, h4, h5⟩ := atI_get he
  obtain ⟨w, ew, rw'⟩ := r.get h2
  have hl := r.length
  have hn := line63
  have fin : EP X pins σ Q w s := ⟨z, H, I, rw', q⟩
  exact subscriptTail_builtinR (x := w) pl.typeIs slot_tuple_getitem.lookup
    (getItem_tuple (j := j) (Q := fun r s' => r = w /\ EP X pins σ Q r s') pl (by lia) (by lia) (by rw [List.size_toArray, <- hl]; exact h1) (by simpa using ew) ⟨rfl, fin⟩) hs
theorem mapSeq_set (its : List Value) (n j : Nat) (u : Value) : Obj.mapSeq (·.setIfInBounds j u) { cls := .type "list", data := .seq its.toArray n } = { cls := .type "list", data := .seq (its.set j u).toArray n } := by
  simp [Obj.mapSeq]
theorem Inv.lst {pins : List (Addr × Obj)} {σ : St} {H : Hp} {s : Shared} {p : Addr} {xs : List V} (I : Inv X pins σ H s) (h : H p = some (.lst xs)) :
    ∃ (its : List Value) (n : Nat), Vals xs its /\ s.heap.get? p = some { cls := .type "list", data := .seq its.toArray n } /\ xs.length <= sizeLine := by
  obtain ⟨z, its, n, r, e⟩ := I.hok p _ h
  exact ⟨its, n, r, e, z⟩
theorem Inv.lstUpd {pins : List (Addr × Obj)} {σ : St} {H : Hp} {s : Shared} {p : Addr} {xs ys : List V} {its its' : List Value} {n n' : Nat} {f : Obj -> Obj} (I : Inv X pins σ H s) (h : H p = some (.lst xs))
    (ho : s.heap.get? p = some { cls := .type "list", data := .seq its.toArray n }) (hf : f { cls := .type "list", data := .seq its.toArray n } = { cls := .type "list", data := .seq its'.toArray n' }) (r : Vals ys its') (hz : ys.length <= sizeLine) (t : Nat) :
    Inv X pins σ (upd H p (.lst ys)) { s with heap := s.heap.update p f, toks := t } := by
  have e : (s.heap.update p f).get? p = some { cls := .type "list", data := .seq its'.toArray n' } := by
    rw [Heap.get?_update_self f ho (by rw [hf] <;> rfl), hf]
  refine I.write (x := p) (e := p) (by rw [h]; trivial) (.inl rfl) (fun b u hb q => (Heap.get?_update_other _ _ (Ne.symm hb)).trans q) ⟨_, e⟩ ?_
  exact ⟨hz, its', n', r, e⟩
def rSetL : V -> V -> V -> Hp -> (Hp -> Prop) -> Prop := fun o i v H Q => ∃ p xs k j, o = .ref p /\ i = .int k /\ H p = some (.lst xs) /\ ixN xs.length k = some j /\ Q (upd H p (.lst (xs.set j v)))
theorem set_list : PSet X rSetL := by
  intro pins s σ H o i v ov iv u Q I ro ri rv h
  obtain ⟨p, xs, k, j, rfl, rfl, hp, hj, q⟩ := h
  cases ro
  obtain ⟨t, rfl⟩ := ri
  obtain ⟨its, n, r, ho, hz⟩ := I.lst hp
  obtain ⟨h1, h2, h3, h4⟩ := ixN_seq hj
  have hl := r.length
  have hn := line63
  have I' : Inv X pins σ (upd H p (.lst (xs.set j v))) { s with heap := s.heap.update p (Obj.mapSeq (·.setIfInBounds j u)) } :=
    I.lstUpd hp ho (mapSeq_set its n j u) (r.set rv j) (by rw [List.length_set]; exact hz) s.toks
  by_cases h0 : 0 <= k
  · have hk : k.toNat = j := by
      rw [seqIndex_of h0 h4] at h1
      exact Option.some.inj h1
    exact PySem.W.ki_setAt ho h0 (by lia) (by rw [List.size_toArray, <- hl]; exact h4) (by rw [hk]; exact ⟨_, I', q⟩)
  · have hk : (k + (its.toArray.size : Int)).toNat = j := by
      rw [seqIndex_neg (by lia) h3] at h1
      rw [List.size_toArray, <- hl]
      exact Option.some.inj h1
    exact PySem.W.ki_setBack ho (by lia) (by rw [List.size_toArray, <- hl]; exact h3) (by lia) (by rw [hk]; exact ⟨_, I', q⟩)
theorem slice_bounds (lo hi : Option Int) (n : Nat) : (sliceBounds lo hi none n).1 = ((HT.sIx n 0 lo : Nat) : Int) /\ (sliceBounds lo hi none n).2.1 = ((HT.sIx n n hi : Nat) : Int) /\ (sliceBounds lo hi none n).2.2 = 1 := by
  refine ⟨?_, ?_, rfl⟩
  · cases lo with
    | none => simp [sliceBounds, HT.sIx]
    | some i =>
      simp only [sliceBounds, HT.sIx, Option.getD_none, show (1 : Int) > 0 by decide, if_true]
      by_cases h : i < 0
      · simp only [h, if_true] <;> lia
      · simp only [h, if_false] <;> lia
  · cases hi with
    | none => simp [sliceBounds, HT.sIx]
    | some i =>
      simp only [sliceBounds, HT.sIx, Option.getD_none, show (1 : Int) > 0 by decide, if_true]
      by_cases h : i < 0
      · simp only [h, if_true] <;> lia
      · simp only [h, if_false] <;> lia
theorem slicePick_cut (its : List Value) (lo hi : Option Int) : slicePick its.toArray lo hi none = ((its.drop (HT.sIx its.length 0 lo)).take (HT.sIx its.length its.length hi - HT.sIx its.length 0 lo)).toArray := by
  obtain ⟨h1, h2, h3⟩ := slice_bounds lo hi its.toArray.size
  unfold slicePick
  rw [h1, h2, h3]
  simp only [sliceRange_one, pick_run, List.size_toArray] <;> rfl
def rSlL (K : PySem.W.Frag) : V -> Option Int -> Option Int -> Hp -> VK -> Prop := fun x lo hi H Q => ∃ a xs, x = .ref a /\ SqL K H a xs /\ ∀ p, H p = none -> Q (.ref p) (upd H p (.lst (cutV xs lo hi)))
theorem sl_list : SlR X (rSlL X.K) := by
  intro pins s σ H x v vl vu lo hi sl Q I rx hs pl pu h
  obtain ⟨a, xs, rfl, hx, q⟩ := h
  cases rx
  obtain ⟨its, r, ht, hz⟩ := I.list hx
  have hlen := r.length
  refine ⟨"list", _, slot_list_getitem.lookup, ht.isList.typeIs, ?_⟩
  refine wpAny_getItem_list_slice ht.isList hs pl pu .none (by simp) ?_ (by rw [List.size_toArray] <;> lia)
  rw [slicePick_cut, <- hlen]
  refine ⟨.ref s.heap.objs.size, _, I.laid (t' := s.toks) (o := .lst (cutV xs lo hi)) (fun b ob q => Heap.get?_push_of_some _ q) (Nat.le_refl _) ?_, rfl, q _ (I.hok.fresh (Nat.le_refl _))⟩
  exact ⟨Nat.le_trans (cutV_length xs lo hi) hz, _, 0, (r.drop (HT.sIx xs.length 0 lo)).take (HT.sIx xs.length xs.length hi - HT.sIx xs.length 0 lo), Heap.get?_push_size _ rfl⟩
def flatV : V -> Bool
  | .non => true
  | .bl _ => true
  | .int _ => true
  | .str _ => true
  | _ => false
def eqV : V -> V -> Bool
  | .non, .non => true
  | .bl a, .bl b => a == b
  | .bl a, .int b => (if a then 1 else 0) == b
  | .int a, .bl b => a == (if b then 1 else 0)
  | .int a, .int b => a == b
  | .str a, .str b => a == b
  | _, _ => false
theorem eqAt_V {A : Around} {s : Shared} {y x : V} {u v : Value} (ry : RelV y u) (rx : RelV x v) (fy : flatV y = true) (fx : flatV x = true) : SeqAt.EqAt A s u v (eqV y x) := by
  cases y with
  | non =>
    cases ry
    cases x with
    | non => cases rx; exact SeqAt.EqAt.same _
    | bl b => cases rx; exact SeqAt.EqAt.none_bool b
    | int b => obtain ⟨t, rfl⟩ := rx; exact SeqAt.EqAt.none_int b t
    | str b => obtain ⟨t, rfl⟩ := rx; exact SeqAt.EqAt.none_str b t
    | _ => exact absurd (show false = true from fx) Bool.false_ne_true
  | bl a =>
    cases ry
    cases x with
    | non => cases rx; exact SeqAt.EqAt.bool_none a
    | bl b => cases rx; exact SeqAt.EqAt.bool_bool a b
    | int b => obtain ⟨t, rfl⟩ := rx; exact SeqAt.EqAt.bool_int a b t
    | str b => obtain ⟨t, rfl⟩ := rx; exact SeqAt.EqAt.bool_str a b t
    | _ => exact absurd (show false = true from fx) Bool.false_ne_true
  | int a =>
    obtain ⟨t', rfl⟩ := ry
    cases x with
    | non => cases rx; exact SeqAt.EqAt.int_none a t'
    | bl b => cases rx; exact SeqAt.EqAt.int_bool a t' b
    | int b => obtain ⟨t, rfl⟩ := rx; exact SeqAt.EqAt.int_int a t' b t
    | str b => obtain ⟨t, rfl⟩ := rx; exact SeqAt.EqAt.int_str a t' b t
    | _ => exact absurd (show false = true from fx) Bool.false_ne_true
  | str a =>
    obtain ⟨t', rfl⟩ := ry
    cases x with
    | non => cases rx; exact SeqAt.EqAt.str_none a t'
    | bl b => cases rx; exact SeqAt.EqAt.str_bool a t' b
    | int b => obtain ⟨t, rfl⟩ := rx; exact SeqAt.EqAt.str_int a t' b t
    | str b => obtain ⟨t, rfl⟩ := rx; exact SeqAt.EqAt.str_str a t' b t
    | _ => exact absurd (show false = true from fx) Bool.false_ne_true
  | _ => exact absurd (show false = true from fy) Bool.false_ne_true
theorem call_len_seq : CallR X (.builtin "len") (fun xs H Q => ∃ p ys, xs = [.ref p] /\ (SqL X.K H p ys \/ SqT X.K H p ys) /\ Q (.int ys.length) H) := by
  intro pins s σ H xs us Q I r h
  obtain ⟨p, ys, rfl, hq, q⟩ := h
  obtain ⟨u, rfl, rx⟩ := vals1 r
  cases rx
  have hn := line63
  rcases hq with hq | hq
  · obtain ⟨its, r', pl, hz⟩ := I.list hq
    have hlen := r'.length
    exact Calls.call_len_list pl.isList (by simp only [List.size_toArray] <;> lia) ⟨.int ys.length, H, I.tok _, ⟨s.toks + 1, by rw [List.size_toArray, hlen]⟩, q⟩
  · obtain ⟨its, r', pl, hz⟩ := I.tuple hq
    have hlen := r'.length
    exact len_tuple pl (by simp only [List.size_toArray] <;> lia) ⟨.int ys.length, H, I.tok _, ⟨s.toks + 1, by rw [List.size_toArray, hlen]⟩, q⟩
theorem call_tuple_of : CallR X (.type "tuple") (fun xs H Q => ∃ p ys, xs = [.ref p] /\ ((SqL X.K H p ys /\ ∀ l, H l = none -> Q (.ref l) (upd H l (.tup ys))) \/ (SqT X.K H p ys /\ Q (.ref p) H))) := by
  intro pins s σ H xs us Q I r h
  obtain ⟨p, ys, rfl, h⟩ := h
  obtain ⟨u, rfl, rx⟩ := vals1 r
  cases rx
  rcases h with ⟨hq, q⟩ | ⟨hq, q⟩
  · obtain ⟨its, r', pl, hz⟩ := I.list hq
    have hlen := r'.length
    refine call_tuple_list pl.isList (fun h' kp => ?_) (by simp only [List.size_toArray] <;> lia)
    have I1 : Inv X pins σ H { s with heap := h' } := I.kept (t' := s.toks) kp
    have I2 : Inv X pins σ (upd H h'.objs.size (.tup ys)) { s with heap := h'.push { cls := .type "tuple", data := .seq its.toArray } } :=
      I1.laid (t' := s.toks) (fun b o e => Heap.get?_push_of_some _ e) (Nat.le_refl _) (show ObjOk X.prog X.w _ _ _ (.tup ys) from ⟨hz, its, r', IsTup.new _ _⟩)
    exact ⟨.ref h'.objs.size, _, I2, rfl, q _ (I1.hok.fresh (Nat.le_refl _))⟩
  · obtain ⟨its, r', pl, hz⟩ := I.tuple hq
    exact call_tuple_same pl ⟨.ref p, H, I, rfl, q⟩
def tyV (K : PySem.W.Frag) (T : String) (x : V) (H : Hp) : Prop := match x with
  | .str _ => T = "str"
  | .int _ => T = "int"
  | .ref p => (T = "list" /\ ∃ xs, SqL K H p xs) \/ (T = "tuple" /\ ∃ o, K.lookup p = some o /\ o.cls = .type "tuple" /\ o.dict = none) \/
      (T = "dict" /\ ((∃ kvs, H p = some (.dK kvs)) \/ ∃ kvs, H p = some (.dT kvs))) \/ (T = "set" /\ ∃ S n, H p = some (.set S n))
  | _ => False
theorem tyV_is {pins : List (Addr × Obj)} {σ : St} {H : Hp} {s : Shared} {T : String} {x : V} {v : Value} (I : Inv X pins σ H s) (r : RelV x v) (ty : tyV X.K T x H) :
    s.TypeIs v T /\ ∀ a, v = .ref a -> ∃ ob, s.heap.get? a = some ob /\ ob.dict = none := by
  cases x with
  | str z =>
    obtain ⟨t, rfl⟩ := r
    cases (show T = "str" from ty)
    exact ⟨typeIs_str s z t, fun _ e => nomatch e⟩
  | int i =>
    obtain ⟨t, rfl⟩ := r
    cases (show T = "int" from ty)
    exact ⟨typeIs_int s i t, fun _ e => nomatch e⟩
  | ref p =>
    cases r
    rcases ty with ⟨rfl, xs, hq⟩ | ⟨rfl, o, hk, hc, hd⟩ | ⟨rfl, hk⟩ | ⟨rfl, S, n, hk⟩
    · obtain ⟨its, _, pl, _⟩ := I.list hq
      refine ⟨pl.isList.typeIs, fun a e => ?_⟩
      cases e
      obtain ⟨o, n, e, c, hd, _⟩ := pl
      exact ⟨o, e, hd⟩
    · refine ⟨⟨o, I.kIn p o hk, hc⟩, fun a e => ?_⟩
      cases e
      exact ⟨o, I.kIn _ o hk, hd⟩
    · have z : ∃ o, s.heap.get? p = some o /\ o.ExactDict := by
        rcases hk with ⟨kvs, hk⟩ | ⟨kvs, hk⟩
        · obtain ⟨_, _, _, _, o, _, _, e, ex, _⟩ := I.hok p _ hk
          exact ⟨o, e, ex⟩
        · obtain ⟨_, _, _, _, o, _, _, e, ex, _⟩ := I.hok p _ hk
          exact ⟨o, e, ex⟩
      obtain ⟨o, e, ex⟩ := z
      refine ⟨⟨o, e, ex.1⟩, fun a e2 => ?_⟩
      cases e2
      exact ⟨o, e, ex.2.1⟩
    · obtain ⟨o, _, _, _, e, ex, _⟩ := I.hok p _ hk
      refine ⟨⟨o, e, ex.1⟩, fun a e2 => ?_⟩
      cases e2
      exact ⟨o, e, ex.2.1⟩
  | _ => exact False.elim ty
def tBM0 (K : PySem.W.Frag) (T : String) (r : V -> List V -> Hp -> VK -> Prop) (to : TE) : TE := fun σ H Q => to σ H fun x H1 => tyV K T x H1 /\ r x [] H1 Q
def tBM (K : PySem.W.Frag) (T : String) (r : V -> List V -> Hp -> VK -> Prop) (to : TE) (t : TA) : TE := fun σ H Q => to σ H fun x H1 => tyV K T x H1 /\ t σ H1 fun xs H2 => r x xs H2 Q
variable {o e : Expr} {es : List Expr} {to : TE} {t : TA} {name : Str} {apos cpos : Pos} {T id : String} {r : V -> List V -> Hp -> VK -> Prop}
theorem pe_bm0 (pa : PlainAttrs T) (slot : Slot T name id) (hty : typeOf (.builtin id) = pure (.type "method_descriptor")) (hm : MtR X id r) (ho : PE X o to)
    (hbase : attributeBase o name X.env (eval o X.env) = eval o X.env := by rfl) (hline : (apos.endLine == cpos.line) = true := by rfl) : PE X (.Call (.Attribute o name apos) [] [] cpos) (tBM0 X.K T r to) := by
  intro pins s σ H Q I h
  refine wpAny_Call_method0_late hbase hline (thn (ho pins s σ H _ I h) fun v s1 ⟨x, H1, I1, r1, ty, q1⟩ => ?_)
  obtain ⟨h1, h2⟩ := tyV_is I1 r1 ty
  exact ⟨T, id, pa, slot, hty, h1, h2, Calls.callWith_builtin rfl (PySem.evalArgs_none (hm pins s1 σ H1 x [] v [] Q I1 r1 .nil q1))⟩
theorem pe_bm (pa : PlainAttrs T) (slot : Slot T name id) (hty : typeOf (.builtin id) = pure (.type "method_descriptor")) (hm : MtR X id r) (ho : PE X o to) (ha : PA X (e :: es) t)
    (hbase : attributeBase o name X.env (eval o X.env) = eval o X.env := by rfl)
    (hfew : ((backTo cpos (starEach (e :: es) X.env)).all (fun x => !x.1) && (backToKw cpos (keywordEach [] X.env)).all (fun x => x.1.isSome)
      && decide ((e :: es).length + ([] : List Keyword).length + (if ([] : List Keyword).isEmpty then 0 else 1) < 30)) = true := by rfl)
    (hline : (apos.endLine == cpos.line) = true := by rfl) (hs : starEach (e :: es) X.env = (false, eval e X.env) :: starEach es X.env := by rfl) (hplain : (backTo cpos (starEach es X.env)).any (·.1) = false := by rfl) :
    PE X (.Call (.Attribute o name apos) (e :: es) [] cpos) (tBM X.K T r to t) := by
  intro pins s σ H Q I h
  refine wpAny_Call_method_late hbase hfew hline rfl (thn (ho pins s σ H _ I h) fun v s1 ⟨x, H1, I1, r1, ty, q1⟩ => ?_)
  obtain ⟨h1, h2⟩ := tyV_is I1 r1 ty
  refine ⟨T, id, pa, slot, hty, h1, h2, ?_⟩
  have hA := ha cpos pins s1 σ H1 _ I1 q1
  rw [hs] at hA ⊢
  refine Calls.callWith_builtin (by show (false || (backTo cpos (starEach es X.env)).any (·.1)) = false; rw [hplain] <;> rfl) (Calls.evalArgs_plain ?_)
  exact thn hA fun us s2 ⟨vs, H2, I2, r2, q2⟩ => hm pins s2 σ H2 x vs v us Q I2 r1 r2 q2
/- xs.append(e), list.index on a module's tuple .. are MtR facts of 06m -/
end
def MtM (X : Cx) (id : String) (r : V -> List V -> Hp -> VK -> Prop) : Prop :=
  ∀ (pins : List (Addr × Obj)) (s : Shared) (σ : St) (H : Hp) (x : V) (xs : List V) (v : Value) (us : List Value) (Q : VK), Inv X pins σ H s -> RelV x v -> Vals xs us -> r x xs H Q ->
    wpAny (model X.prog X.w) X.A (call (.builtin id) (v :: us)) (EP X pins σ Q) X.xe s
theorem Vals.one : ∀ {x : V} {us : List Value}, Vals [x] us -> ∃ u, us = [u] /\ RelV x u
  | _, _, .cons r .nil => ⟨_, rfl, r⟩
theorem Vals.two : ∀ {x y : V} {us : List Value}, Vals [x, y] us -> ∃ u v, us = [u, v] /\ RelV x u /\ RelV y v := by
  intro x y us h
  cases h with
  | cons r h => cases h with
    | cons q h => cases h; exact ⟨_, _, rfl, r, q⟩
theorem Vals.zero : ∀ {us : List Value}, Vals [] us -> us = []
  | _, .nil => rfl
theorem Vals.eraseIdx : ∀ {xs : List V} {us : List Value} (i : Nat), Vals xs us -> Vals (xs.eraseIdx i) (us.eraseIdx i)
  | _, _, _, .nil => .nil
  | _, _, 0, .cons _ t => t
  | _, _, i + 1, .cons r t => .cons r (Vals.eraseIdx i t)
theorem Vals.reverse {xs : List V} {us : List Value} (h : Vals xs us) : Vals xs.reverse us.reverse := by
  induction h with
  | nil => exact .nil
  | cons r t ih => rw [List.reverse_cons, List.reverse_cons]; exact Vals.append ih (.cons r .nil)
theorem len_erase {α : Type} : ∀ (l : List α) (i : Nat), (l.eraseIdx i).length <= l.length
  | [], _ => Nat.le_refl _
  | _ :: _, 0 => Nat.le_succ _
  | _ :: r, i + 1 => Nat.succ_le_succ (len_erase r i)
section
variable {X : Cx} {pins : List (Addr × Obj)} {σ : St} {H : Hp} {s : Shared} {l b : Addr} {xs ys zs : List V}
theorem Inv.lset {its its' : List Value} {n : Nat} {f : Array Value -> Array Value} {t' : Nat} (I : Inv X pins σ H s) (hH : H l = some (.lst xs))
    (e : s.heap.get? l = some { cls := .type "list", data := .seq its.toArray n }) (hf : f its.toArray = its'.toArray) (hv : Vals ys its') (hz : ys.length <= sizeLine) :
    Inv X pins σ (upd H l (.lst ys)) { s with heap := s.heap.update l (Obj.mapSeq f), toks := t' } := by
  have q := PySem.IsL.update e f
  rw [hf] at q
  refine I.write (x := l) (e := l) (by rw [hH]; exact trivial) (.inl rfl) (fun b' u hb hu => (Heap.get?_update_other s.heap (Obj.mapSeq f) (Ne.symm hb)).trans hu) ⟨_, q⟩ ?_
  exact ⟨hz, its', _, hv, q⟩
theorem Inv.lnew {its : List Value} {t' : Nat} (I : Inv X pins σ H s) (hv : Vals ys its) (hz : ys.length <= sizeLine) :
    Inv X pins σ (upd H s.heap.objs.size (.lst ys)) { s with heap := s.heap.push { cls := .type "list", data := .seq its.toArray }, toks := t' } :=
  I.laid (fun _ _ q => Heap.get?_push_of_some _ q) (Nat.le_refl _) ⟨hz, its, 0, hv, Heap.get?_push_size _ rfl⟩
theorem Inv.fresh (I : Inv X pins σ H s) : H s.heap.objs.size = none := I.hok.fresh (Nat.le_refl _)
theorem Inv.lstM (I : Inv X pins σ H s) (hH : H l = some (.lst xs)) : xs.length <= sizeLine /\ ∃ (its : List Value) (n : Nat), Vals xs its /\ xs.length = its.length /\ s.heap.get? l = some { cls := .type "list", data := .seq its.toArray n } := by
  obtain ⟨z, its, n, r, e⟩ := I.hok l _ hH
  exact ⟨z, its, n, r, r.length, e⟩
theorem notLongL {n : Nat} (h : n <= sizeLine) : Builtin.List.listTooLong n = false := by
  unfold Builtin.List.listTooLong
  exact decide_eq_false (by lia)
end
section
variable {X : Cx}
def rAppend : V -> List V -> Hp -> VK -> Prop := fun x vs H Q => ∃ l xs y, x = .ref l /\ vs = [y] /\ H l = some (.lst xs) /\ xs.length < sizeLine /\ Q .non (upd H l (.lst (xs ++ [y])))
theorem mt_append : MtM X "list.append" rAppend := by
  intro pins s σ H x vs v us Q I rx rv h
  obtain ⟨l, xs, y, rfl, rfl, hH, hz, q⟩ := h
  cases rx
  obtain ⟨u, rfl, ru⟩ := rv.one
  obtain ⟨z, its, n, r, hl, e⟩ := I.lstM hH
  refine call_meets F.slot_list_append ⟨_, e, rfl⟩ F.entry_list_append (F.args_list_append_2 _ _) (PySem.list_append l its.toArray n u (by rw [List.size_toArray]; lia)) ⟨e, ?_⟩
  refine ⟨.non, _, I.lset (its' := its ++ [u]) hH e (by simp) (r.append (.cons ru .nil)) ?_, rfl, q⟩
  rw [List.length_append, List.length_singleton]
  lia
def rExtend : V -> List V -> Hp -> VK -> Prop := fun x vs H Q => ∃ l b xs zs, x = .ref l /\ vs = [.ref b] /\ H l = some (.lst xs) /\ H b = some (.lst zs) /\ xs.length + zs.length <= sizeLine /\ Q .non (upd H l (.lst (xs ++ zs)))
theorem mt_extend : MtM X "list.extend" rExtend := by
  intro pins s σ H x vs v us Q I rx rv h
  obtain ⟨l, b, xs, zs, rfl, rfl, hH, hB, hz, q⟩ := h
  cases rx
  obtain ⟨u, rfl, ru⟩ := rv.one
  cases ru
  obtain ⟨z, its, n, r, hl, e⟩ := I.lstM hH
  obtain ⟨z2, its2, n2, r2, hl2, e2⟩ := I.lstM hB
  have hsz : its.toArray.size + its2.toArray.size <= sizeLine := by rw [List.size_toArray, List.size_toArray]; lia
  have hlong : ¬ (!its.toArray.isEmpty && Builtin.List.listTooLong (its.toArray.size + its2.toArray.size)) = true := by
    rw [notLongL hsz, Bool.and_false]
    exact Bool.false_ne_true
  refine call_meets F.slot_list_extend ⟨_, e, rfl⟩ F.entry_list_extend (F.args_list_extend_2 _ _)
    (AutoSeq1.list_extend_list_list_0 l its.toArray n b its2.toArray n2 hlong (by rw [List.size_toArray]; lia) (by lia)) ⟨e, e2, ?_⟩
  refine ⟨.non, _, I.lset (its' := its ++ its2) hH e (by simp) (r.append r2) ?_, rfl, q⟩
  rw [List.length_append]
  lia
def rReverse : V -> List V -> Hp -> VK -> Prop := fun x vs H Q => ∃ l xs, x = .ref l /\ vs = [] /\ H l = some (.lst xs) /\ Q .non (upd H l (.lst xs.reverse))
theorem mt_reverse : MtM X "list.reverse" rReverse := by
  intro pins s σ H x vs v us Q I rx rv h
  obtain ⟨l, xs, rfl, rfl, hH, q⟩ := h
  cases rx
  have hus := rv.zero
  subst hus
  obtain ⟨z, its, n, r, hl, e⟩ := I.lstM hH
  refine call_meets F.slot_list_reverse ⟨_, e, rfl⟩ F.entry_list_reverse (F.args_list_reverse_1 _) (AutoSeq1.list_reverse_list_0 l its.toArray n (by rw [List.size_toArray]; lia)) ⟨e, ?_⟩
  refine ⟨.non, _, I.lset (its' := its.reverse) hH e (by simp) r.reverse ?_, rfl, q⟩
  rw [List.length_reverse]
  lia
def rCat : R2 := fun x y H Q => ∃ l b xs zs, x = .ref l /\ y = .ref b /\ H l = some (.lst xs) /\ H b = some (.lst zs) /\ xs.length + zs.length <= sizeLine /\ ∀ p, H p = none -> Q (.ref p) (upd H p (.lst (xs ++ zs)))
theorem op_cat : OpR X (binaryOp .Add) rCat := by
  intro pins s σ H x y v u Q I rx ry h
  obtain ⟨l, b, xs, zs, rfl, rfl, hH, hB, hz, q⟩ := h
  cases rx
  cases ry
  obtain ⟨z, its, n, r, hl, e⟩ := I.lstM hH
  obtain ⟨z2, its2, n2, r2, hl2, e2⟩ := I.lstM hB
  refine PySem.P.add_list e e2 ?_ (by rw [List.size_toArray, List.size_toArray]; lia)
  have ea : its.toArray ++ its2.toArray = (its ++ its2).toArray := by simp
  rw [ea]
  exact ⟨.ref _, _, I.lnew (t' := s.toks) (r.append r2) (by rw [List.length_append]; lia), rfl, q _ I.fresh⟩
end
section
variable {prog : Program} {w : World} {A : Around} {E : Value -> Shared -> Prop} {s : Shared}
set_option maxRecDepth 100000 in
end
section
variable {X : Cx}
end
end L2
namespace Att
open PySem PySem.W PySem.Calls PyProof.Rows
theorem ints_of_wellAll {P : Params} {h : Heap} : ∀ (ns : List Int) (vs : List Value), WellAll P h vs (ns.map WData.int) -> IntsAre vs ns := by
  intro ns
  induction ns with
  | nil =>
    intro vs w
    rw [List.map_nil] at w
    cases w
    exact .nil
  | cons n ns ih =>
    intro vs w
    rw [List.map_cons] at w
    cases w with
    | cons a b =>
      cases a
      exact .cons _ _ (ih _ b)
theorem script_of {l : OpenLaw} {n : Nat} (hn : l.most = some n) {P : Params} {h : Heap} {args : List WData} {vals : List Value}
    (hpre : l.row.toRowW.claim.pre args = true) (hwl : WellAll P h vals args) :
    ∃ a vs ns, vals = [Value.ref a] /\ args = [WData.list (ns.map WData.int)] /\ h.get? a = some { cls := .type "list", data := .seq vs.toArray } /\ IntsAre vs ns /\ ns.length <= n := by
  have hsh : WShape.hasAll [] args [.list .int] = true := (pre_splitW hpre).1
  have hc : l.pre.holds [] { args := args } = true := (pre_splitW hpre).2
  obtain ⟨d, r, rfl, h1, h2⟩ := hasAllW_cons hsh
  obtain rfl := hasAllW_nil h2
  obtain ⟨xs, rfl, h3⟩ := hasW_list h1
  obtain ⟨ns, rfl⟩ := items_int h3
  have hlen : ns.length <= n := by
    unfold OpenLaw.pre at hc
    have h4 : (WTm.not (.lt (.lit (.int (n : Int))) (.len (.arg 0)))).holds [] { args := [.list (ns.map .int)] } = true := by
      have h4 := (holds_andW hc).1
      rw [hn] at h4
      exact h4
    have h5 := condW_of h4 (w_not (w_lt w_lit (w_len_list (w_arg rfl))))
    rw [List.length_map] at h5
    refine Nat.le_of_not_lt fun q => ?_
    have q' : (n : Int) < ((ns.length : Nat) : Int) := by lia
    first
      | (rw [decide_eq_true q'] at h5; exact absurd h5 (by decide))
      | (simp at h5; lia)
  cases hwl with
  | cons w1 w2 =>
    cases w2
    cases w1 with
    | list ho hall => exact ⟨_, _, ns, rfl, rfl, ho, ints_of_wellAll ns _ hall, hlen⟩
theorem post_true (l : OpenLaw) (args : List WData) : l.row.toRowW.claim.post args (.bool true) args = true :=
  postW_of (r := l.row.toRowW) (X := (true == true))
    (show WShape.has [] (.bool true) .bool = true by first | rfl | decide | simp [WShape.has, WShape.arms, WShape.armsAll])
    (show (WTm.eq .res (.lit (.bool true))).value [] { args := args, res := some (.bool true), after := args } = some (.bool (true == true)) from w_eq_bool (w_res rfl) w_lit) rfl
theorem attach_call {l : OpenLaw} {n : Nat} {q : Program} {loose : List Str} {XP : (Str -> Option Value) -> Heap -> Prop} {YP : World -> Heap -> Prop} {d : DefRec}
    (hn : l.most = some n) (hdf : d.params.defaults = [])
    (call : ∀ (w : World) (s₀ s₁ : Shared) (mg mb : Str -> Option Value) (fa : Addr) (o : Obj) (pm cd doc : Value) (a : Addr) (vs : List Value) (ns : List Int),
      Ground q loose [] XP w s₀ mg mb s₁.heap -> YP w s₁.heap ->
      s₁.heap.get? fa = some o -> o.data = .func (docDef d.name d.params d.body d.scope pm cd doc) -> s₁.heap.CodeRec cd d.name -> mg d.name = some (.ref fa) ->
      s₁.heap.get? a = some { cls := .type "list", data := .seq vs.toArray } -> IntsAre vs ns -> ns.length <= n -> s₁.gens = #[] ->
      codeAny (model l.prog w) callerA (.call (.ref fa) ⟨[.ref a], []⟩) (fun r s' => r = .ok (.ret (.bool true)) /\ OldK s₁.heap s'.heap /\ s'.os = s₁.os /\ AllBare s'.gens) s₁) :
    WalkO q loose XP YP l.row.toRowW d [] (fun f vs => PySem.call f vs) := by
  intro w s₀ s₁ mg mb G Y fa o pm cd doc dV kV ho hd hcd hD hmg hg args vals as hpre hlay hrd hwl hlo
  obtain rfl : dV = .none := Dflts.none hD hdf
  obtain rfl : kV = .none := Dflts.noKw hD
  obtain ⟨a, vs, ns, rfl, rfl, hobj, hints, hlen⟩ := script_of hn hpre hwl
  refine enter_call (codeAny_mono (call w s₀ s₁ mg mb fa o pm cd doc a vs ns G Y ho (fd_plain hd) hcd hmg hobj hints hlen hg) fun r s' hq => ?_)
  obtain ⟨rfl, h2, h3, h4⟩ := hq
  exact ⟨.inl ⟨.bool true, .bool true, [], rfl, fun _ => rfl, .bool true, post_true l _, fun _ => ⟨List.Pairwise.nil, fun _ hm => (nomatch hm)⟩⟩, h2, h3, h4⟩
section
variable {prog : Program} {w : World} {A : Around} {E : Value -> Shared -> Prop} {s : Shared} {K : Frag}
end
end Att
namespace L2
open PySem PySem.Spec PyProof.Rows
theorem vals_ints : ∀ {vs : List Value} {ns : List Int}, IntsAre vs ns -> Vals (ns.map V.int) vs
  | _, _, .nil => .nil
  | _, _, .cons n t h => .cons ⟨t, rfl⟩ (vals_ints h)
def Only (H : Hp) : Prop := ∀ b, H b = none \/ ∃ o xs, H b = some (.frz o (.lst xs))
theorem law_call {P : Program} {w : World} {K : PySem.W.Frag} {mg mb : Str -> Option Value} {CX : CXT} {k : Nat} {fa a : Addr} {fd : FuncData} {x : Str} {sp : Sp} {s₁ : Shared} {vs : List Value} {ns : List Int}
    (KX : K.In s₁.heap) (hns : s₁.heap.Ns mainGlobals mg) (hb : s₁.heap.Ns builtinsNs mb) (hbb : ∀ x : Str, x ≠ "__name__" -> mb x = bootBuiltins x) (hlim : s₁.heap.NoLimit) (hg : s₁.gens = #[])
    (ha : s₁.heap.get? a = some { cls := .type "list", data := .seq vs.toArray }) (hi : IntsAre vs ns) (hl : ns.length <= sizeLine) (hr : Room k callerA)
    (F : ∀ base : Heap, K.In base -> base.Ns mainGlobals mg -> FnOk P w K mg base CX k fa fd [x] sp) (hbind : ∀ (s : Shared) (u : Value), BindsTo s fd ⟨[u], []⟩ [(x, u)])
    (hsp : ∀ H : Hp, Only H -> SqL K H a (ns.map V.int) -> sp [.ref a] H (fun v _ => v = .bl true) fun _ _ _ => False)
    (hCX : ∀ H e s', CX [] H s₁ (fun _ _ _ => False) e s' -> False) :
    codeAny (model P w) callerA (.call (.ref fa) ⟨[.ref a], []⟩) (fun r s' => r = .ok (.ret (.bool true)) /\ OldK s₁.heap s'.heap /\ s'.os = s₁.os /\ AllBare s'.gens) s₁ := by
  have rv := vals_ints hi
  have lenV := hi.length
  have core : ∀ H : Hp, Only H -> SqL K H a (ns.map V.int) -> HOk P w H s₁.heap -> (∀ b, H b ≠ none -> b = a) -> (H a ≠ none -> K.lookup a = none) ->
      codeAny (model P w) callerA (.call (.ref fa) ⟨[.ref a], []⟩) (fun r s' => r = .ok (.ret (.bool true)) /\ OldK s₁.heap s'.heap /\ s'.os = s₁.os /\ AllBare s'.gens) s₁ := by
    intro H hO hS hok hA hK
    have base_of : ∀ {b : Addr} {o : Obj}, s₁.heap.get? b = some o -> H b = none -> (hidT s₁.heap H).get? b = some o := fun e n => hidT_get e n
    have noA : ∀ {b : Addr} {o : Obj} {es : Array DictEntry} {ep : Nat}, s₁.heap.get? b = some o -> o.data = .dict es ep -> H b = none := fun {b o es ep} e d => by
      cases q : H b with
      | none => rfl
      | some u =>
        have e' : b = a := hA b (by rw [q]; simp)
        subst e'
        rw [ha] at e; cases e
        have d' : Data.seq vs.toArray _ = Data.dict es ep := d
        cases d'
    have nsK : ∀ {b : Addr} {m : Str -> Option Value}, s₁.heap.Ns b m -> (hidT s₁.heap H).Ns b m := fun {b m} ⟨o, es, ep, e, d, r⟩ => ⟨o, es, ep, base_of e (noA e d), d, r⟩
    have hKb : K.In (hidT s₁.heap H) := fun b o e => base_of (KX b o e) (by
      cases q : H b with
      | none => rfl
      | some u =>
        have e' : b = a := hA b (by rw [q]; simp)
        subst e'
        rw [hK (by rw [q]; simp)] at e; cases e)
    have hM : Mod K mg (hidT s₁.heap H) := ⟨hKb, nsK hns, ⟨mb, nsK hb, hbb⟩, let ⟨mc, h1, h2⟩ := hlim; ⟨mc, nsK h1, h2⟩⟩
    have e0 : Env0 P w K mg (hidT s₁.heap H) callerA [] s₁ H := ⟨rfl, hM, fun b o e => of_hidT e, Nat.le_of_eq (hidT_size _ _), trivial, fun b hb => absurd (show b ∈ ([] : List Addr) from hb) (by simp), hok, .of_eq hg⟩
    refine codeAny_mono ((F _ hKb (nsK hns)).run callerA [] s₁ H ⟨[.ref a], []⟩ [.ref a] [.ref a] _ _ hr e0 (hbind s₁ (.ref a)) (.cons rfl .nil) (hsp H hO hS)) fun r s' h => ?_
    cases r with
    | error e => exact (hCX H e s' h).elim
    | ok fl =>
      cases fl with
      | next => exact False.elim h
      | brk => exact False.elim h
      | cont => exact False.elim h
      | ret u =>
        obtain ⟨v, H', os, bare, un, hok', r', q⟩ := h
        have q' : v = .bl true := q
        subst q'
        obtain rfl : u = Value.bool true := r'
        refine ⟨rfl, OldK.of_keep fun b o e => ?_, os, bare⟩
        cases q : H b with
        | none => exact un.keep b o e q (by intro z; exact absurd (show b ∈ ([] : List Addr) from z) (by simp)) (by simp)
        | some u =>
          rcases hO b with z | ⟨ob, xs, z⟩
          · rw [q] at z; cases z
          · have z2 := un.frzs b ob _ z
            obtain ⟨e1, _⟩ := hok b _ z
            obtain ⟨e2, _⟩ := hok' b _ z2
            rw [e] at e1; cases e1
            exact e2
  cases hk : K.lookup a with
  | some o =>
    have e := KX a o hk
    rw [ha] at e
    cases e
    refine core (fun _ => none) (fun _ => .inl rfl) (.inr ⟨_, vs.toArray, _, hk, rfl, rfl, rfl, by rw [List.size_toArray, lenV]; exact hl, by simpa using rv⟩) (fun b u z => by have z' : (none : Option HO) = some u := z; cases z') (fun b z => absurd rfl z) fun z => absurd rfl z
  | none =>
    refine core (fun b => if b = a then some (.frz { cls := .type "list", data := .seq vs.toArray } (.lst (ns.map V.int))) else none) (fun b => ?_) (.inl (.inr ⟨{ cls := .type "list", data := .seq vs.toArray }, if_pos rfl⟩)) (fun b u z => ?_) (fun b z => ?_) fun _ => hk
    · by_cases hb : b = a
      · exact .inr ⟨_, _, if_pos hb⟩
      · exact .inl (if_neg hb)
    · by_cases hb : b = a
      · have z' := (if_pos hb).symm.trans z
        cases z'
        subst hb
        exact ⟨ha, by rw [List.length_map]; exact hl, vs, _, rv, ha⟩
      · have z' := (if_neg hb).symm.trans z
        cases z'
    · by_cases hb : b = a
      · exact hb
      · exact absurd (if_neg hb) z
abbrev KOf {K : PySem.W.Frag} {h : Heap} (_ : K.In h) : PySem.W.Frag := K
theorem walk_of {l : PySem.W.OpenLaw} {n k : Nat} {q : Program} {loose : List Str} {XP : (Str -> Option Value) -> Heap -> Prop} {YP : World -> Heap -> Prop} {d : DefRec} {K : Params -> PySem.W.Frag} {CX : World -> CXT} {sp : World -> Sp} {x : Str}
    (hn : l.most = some n) (hn2 : n <= sizeLine) (hdf : d.params.defaults = []) (hr : Room k callerA)
    (hY : ∀ (w : World) (h : Heap), YP w h -> (K w.params).In h)
    (F : ∀ (w : World) (mg : Str -> Option Value) (fa : Addr) (h : Heap), (K w.params).In h -> h.Ns mainGlobals mg -> mg d.name = some (.ref fa) ->
      ∃ fd : FuncData, (∀ (s : Shared) (u : Value), BindsTo s fd ⟨[u], []⟩ [(x, u)]) /\
        ∀ base : Heap, (K w.params).In base -> base.Ns mainGlobals mg -> FnOk l.prog w (K w.params) mg base (CX w) k fa fd [x] (sp w))
    (hsp : ∀ (w : World) (H : Hp) (a : Addr) (ns : List Int), ns.length <= n -> Only H -> SqL (K w.params) H a (ns.map V.int) -> sp w [.ref a] H (fun v _ => v = .bl true) fun _ _ _ => False)
    (hCX : ∀ (w : World) (H : Hp) (s : Shared) (e : Value) (s' : Shared), CX w [] H s (fun _ _ _ => False) e s' -> False) :
    PySem.W.WalkO q loose XP YP l.row.toRowW d [] (fun f vs => PySem.call f vs) := by
  refine Att.attach_call hn hdf fun w s₀ s₁ mg mb fa o pm cd doc a vs ns G Y ho hd hcd hmg hobj hints hlen hg => ?_
  have KX := hY w _ Y
  obtain ⟨fd, hb, hF⟩ := F w mg fa _ KX G.T.g hmg
  exact law_call KX G.T.g G.T.b G.T.builtins G.T.nolimit hg hobj hints (Nat.le_trans hlen hn2) hr hF hb (fun H hO hS => hsp w H a ns hlen hO hS) fun H e s' => hCX w H s₁ e s'
end L2
/- THE LAST THEOREM (shape; LID, My.* are yours):
   My.Adr: a structure of the addresses that your layer names (classes, functions); My.Txt K t: a structure (Prop) of the equations over K;
   My.txt_mk : {K} {implicit addresses ..} (e1 : nsIn K mainGlobals "law" = some (some (.ref f))) (e2 : K.lookup f = some ⟨oc, od, .func (fnOf "law" "law" params body scope dV kV doc pm an cdv ct), sl⟩) (e3 : codeIn K cdv "law" = true) .. : ∃ t, My.Txt K t
set_option maxRecDepth 100000 in
set_option maxHeartbeats 0 in
theorem PySem.Challenge.cw_LID_holds : PySem.Challenge.rw_LID.Holds := by
  w_on; o_law; k_head; (case hw => w_witness2)
  k_fill
  refine L2.walk_of (l := PySem.Challenge.rw_LID) (n := 63) (k := 40) (x := "script") (CX := fun w => ..) (sp := fun _ => My.sp_law) rfl (by decide) rfl ⟨rfl, by decide, by decide⟩ (fun w h Y => PySem.W.kIn_of Y) ?F ?S ?C
  case F =>
    intro w mg fa h KX G hmg
    have T : ∃ t, My.Txt (L2.KOf KX) t := by
      dsimp only [L2.KOf]                          -- K must stand as «<heap const> w.params» for k_is
      refine' My.txt_mk ?e1 ?e2 ?e3 ..
      (case e1 => PySem.W.k_is)                    -- in the order: a name -> its address -> its object -> its parts
      (case e2 => PySem.W.k_is)
      ..
    obtain ⟨t, T⟩ := T
    have e0 := hmg.symm.trans (PySem.W.mg_of KX G T.law)
    cases e0                                       -- fa is the law's own address
    exact ⟨_, fun s u => .of_eq rfl, fun base kb nb => My.law_fn T kb nb⟩     -- if «.of_eq rfl» comes too early: refine' ⟨_, ?b, fun base kb nb => My.law_fn T kb nb⟩; exact fun s u => .of_eq rfl
  case S => exact fun w H a ns hl hO hS => ..
  case C => exact ..
(the tactic k_is has no namespace: write k_is) -/
namespace L2
open PySem PySem.Spec PyProof.Rows
def inClass (s : Stmt) (j : Nat) : Stmt := match s with
  | .ClassDef _ _ _ body _ _ _ _ _ _ _ => body.getD j (.Pass ⟨0, 0, 0, 0⟩)
  | _ => .Pass ⟨0, 0, 0, 0⟩
def defArgs (s : Stmt) : Arguments := match s with
  | .FunctionDef _ a _ _ _ _ _ _ _ _ => a
  | _ => { posonlyargs := [], args := [], vararg := none, kwonlyargs := [], kw_defaults := [], kwarg := none, defaults := [] }
def defBody (s : Stmt) : List Stmt := match s with
  | .FunctionDef _ _ b _ _ _ _ _ _ _ => b
  | _ => []
def defScope (s : Stmt) : Scope := match s with
  | .FunctionDef _ _ _ _ _ _ sc _ _ _ => sc
  | _ => { kind := .function, names := [], isGenerator := false, isCoroutine := false }
abbrev CX0 : CXT := fun _ _ _ _ _ _ => False
abbrev E0 : XK := fun _ _ _ => False
theorem pass0 {X : Cx} : Passes CX0 X E0 := fun _ _ _ _ _ _ _ h => h.elim
structure Fun (K : PySem.W.Frag) (x qual : Str) (st : Stmt) (f : Addr) (fd : FuncData) : Prop where
  ex : ∃ (oc : Value) (od : Option Addr) (kV doc pm : Value) (an : Option Addr) (cdv ct : Value) (osl : Array (Option Value)),
    fd = PySem.W.fnOf x qual (defArgs st) (defBody st) (defScope st) .none kV doc pm an cdv ct /\ K.lookup f = some ⟨oc, od, .func fd, osl⟩ /\ PySem.W.codeIn K cdv qual = true
  kp : PySem.W.keepIn K (.ref f) = true
section
variable {P : Program} {w : World} {K : PySem.W.Frag} {mg : Str -> Option Value} {base : Heap}
theorem Fun.ok {x qual : Str} {st : Stmt} {f : Addr} {fd : FuncData} {N ps : List Str} {k : Nat} {sp : Sp} (F : Fun K x qual st f fd) (S : FnScope N ps (defScope st)) (len : ∀ vs H Q E, sp vs H Q E -> vs.length = ps.length)
    (hbody : ∀ (cdv : Value) (A : Around) (outer : List Env) (s : Shared) (H : Hp) (vs : List V) (Q : VK) (E : XK), Room k (A.deeper (envOfC qual (defScope st) s.heap.objs.size f cdv)) -> sp vs H Q E ->
      ∃ t, PSs (cxOf CX0 P w K mg base N qual (defScope st) f cdv A outer s H E).nox (defBody st) t /\ t { nx := fun _ H' => Q .non H', rt := Q } (start N vs) H) : FnOk P w K mg base CX0 (k + 1) f fd ps sp := by
  obtain ⟨oc, od, kV, doc, pm, an, cdv, ct, osl, rfl, lk, hcd⟩ := F.ex
  refine fn_of lk hcd S len fun A outer s H vs Q E hr hsp => ?_
  obtain ⟨t, h, q⟩ := hbody cdv A outer s H vs Q E hr hsp
  exact ⟨t, h.nox, q⟩
theorem Fun.binds {x qual : Str} {st : Stmt} {f : Addr} {fd : FuncData} {ps : List Str} (F : Fun K x qual st f fd)
    (h : ∀ (kV doc pm : Value) (an : Option Addr) (cdv ct : Value) (us : List Value), us.length = ps.length -> bindArgs (PySem.W.fnOf x qual (defArgs st) (defBody st) (defScope st) .none kV doc pm an cdv ct) ⟨us, []⟩ = pure (ps.zip us)) : Binds K fd ps [] := by
  obtain ⟨oc, od, kV, doc, pm, an, cdv, ct, osl, rfl, lk, hcd⟩ := F.ex
  exact .all (h kV doc pm an cdv ct)
theorem fun_mk {x qual : Str} {st : Stmt} {f : Addr} {oc : Value} {od an : Option Addr} {osl : Array (Option Value)} {kV doc pm cdv ct : Value} (l : K.lookup f = some ⟨oc, od, .func (PySem.W.fnOf x qual (defArgs st) (defBody st) (defScope st) .none kV doc pm an cdv ct), osl⟩)
    (c : PySem.W.codeIn K cdv qual = true) (k : PySem.W.keepIn K (.ref f) = true) : Fun K x qual st f (PySem.W.fnOf x qual (defArgs st) (defBody st) (defScope st) .none kV doc pm an cdv ct) := ⟨⟨oc, od, kV, doc, pm, an, cdv, ct, osl, rfl, l, c⟩, k⟩
end
theorem hu_of {A : Around} {k : Nat} (hr : Room k A) : A.units + 1 < cLine := Nat.lt_of_le_of_lt (Nat.add_le_add_left (by decide : 1 <= 64) _) hr.units
section
variable {X : Cx}
theorem pv (i : Nat) {x : Str} {pos : Pos} (hN : X.N[i]? = some x := by rfl) (hv : Vis X.env.scope x := by first | exact Or.inl rfl | exact Or.inr (Or.inl rfl) | exact Or.inr (Or.inr rfl)) (hd : (x == ("__debug__" : Str)) = false := by decide)
    (hcd : (x == ("__classdict__" : Str)) = false := by decide) : PE X (.Name x pos) (tVar i) := pe_var hN hv hd hcd
end
theorem iteF {A B : Prop} (h : B) : if false = true then A else B := by
  rw [if_neg Bool.false_ne_true]
  exact h
theorem iteT {A B : Prop} (h : A) : if true = true then A else B := by
  rw [if_pos rfl]
  exact h
theorem ite2 {c A B : Prop} [Decidable c] (h1 : c -> A) (h2 : ¬ c -> B) : if c then A else B := by
  by_cases h : c
  · rw [if_pos h]
    exact h1 h
  · rw [if_neg h]
    exact h2 h
def Same (H H' : Hp) : Prop := ∀ b o, H b = some o -> H' b = some o
theorem Same.refl (H : Hp) : Same H H := fun _ _ h => h
theorem Same.trans {H H1 H2 : Hp} (a : Same H H1) (b : Same H1 H2) : Same H H2 := fun c o h => b c o (a c o h)
theorem Same.free {H H' : Hp} (e : Same H H') {l : Addr} (h : H' l = Option.none) : H l = Option.none := by
  cases q : H l with
  | none => rfl
  | some o =>
    rw [e l o q] at h
    cases h
theorem Same.seq {K : PySem.W.Frag} {H H' : Hp} {a : Addr} {xs : List V} (e : Same H H') (h : SqL K H a xs) : SqL K H' a xs := by
  rcases h with (h | ⟨o, h⟩) | h
  · exact .inl (.inl (e _ _ h))
  · exact .inl (.inr ⟨o, e _ _ h⟩)
  · exact .inr h
def PIfs (X : Cx) (ifs : List Expr) (t : TT) : Prop :=
  ∀ (pins : List (Addr × Obj)) (s : Shared) (σ : St) (H : Hp) (Q : Bool -> Hp -> Prop), Inv X pins σ H s -> t σ H Q ->
    wpAny (model X.prog X.w) X.A (forIn ifs true fun c r => if r = true then do
      let ok <- isTrue c X.env (eval c X.env)
      pure (ForInStep.yield ok) else pure (ForInStep.yield r)) (TP X pins σ Q) X.xe s
def tYes : TT := fun _ H Q => Q true H
theorem pifs_nil {X : Cx} : PIfs X [] tYes := fun _ _ _ H _ I h => wpAny_tests_nil ⟨H, I, h⟩
theorem pifs_one {X : Cx} {c : Expr} {t : TT} (h : PT X c t) : PIfs X [c] t := fun pins s σ H Q I hw => wpAny_tests_one (h pins s σ H Q I hw)
def clOf (env : Env) : List (Str × NameKind) -> List (Str × Addr) -> List (Str × Addr)
  | [], cs => cs
  | (n, k) :: r, cs => clOf env r (if (k == NameKind.free) = true then (n, (env.cells.lookup n).getD 0) :: cs else cs)
theorem clOf_loop {env : Env} : ∀ (names : List (Str × NameKind)) (cs : List (Str × Addr)), (∀ x ∈ names, x.2 = .free -> ∃ c, env.cells.lookup x.1 = some c) ->
    (forIn names cs fun (x : Str × NameKind) (r : List (Str × Addr)) => (if (x.2 == NameKind.free) = true then do
      let a <- cellOf env x.1
      pure (ForInStep.yield ((x.1, a) :: r)) else pure (ForInStep.yield r) : Sem (ForInStep (List (Str × Addr))))) = pure (clOf env names cs)
  | [], cs, _ => rfl
  | (n, k) :: r, cs, h => by
    rw [List.forIn_cons]
    by_cases hk : (k == NameKind.free) = true
    · obtain ⟨c, hc⟩ := h (n, k) List.mem_cons_self (by simpa using hk)
      have hc' : env.cells.lookup n = some c := hc
      have e1 : cellOf env n = pure c := by unfold cellOf; rw [hc']
      simp only [hk, if_true, e1, pure_bind]
      rw [clOf_loop r _ fun x hx => h x (List.mem_cons_of_mem _ hx)]
      simp [clOf, hk, hc']
    · simp only [hk, pure_bind]
      rw [if_neg (by simp), pure_bind]
      dsimp only
      rw [clOf_loop r _ fun x hx => h x (List.mem_cons_of_mem _ hx)]
      simp [clOf, hk]
theorem closure_is {scope : Scope} {env : Env} (h : ∀ x ∈ scope.names, x.2 = .free -> ∃ c, env.cells.lookup x.1 = some c) : closureFor scope env = pure (clOf env scope.names []) := by
  have e := clOf_loop scope.names [] h
  simp only [closureFor]
  first
    | (rw [e]; rfl)
    | (refine Eq.trans (congrArg (fun t => t >>= _) e) ?_; rfl)
    | (simp only [e]; rfl)
theorem clOf_get {env : Env} {x : Str} {c : Addr} : ∀ (names : List (Str × NameKind)) (cs : List (Str × Addr)), (∀ y ∈ names, y.2 = .free -> ∃ d, env.cells.lookup y.1 = some d) ->
    (clOf env names cs).lookup x = some c -> cs.lookup x = some c \/ env.cells.lookup x = some c
  | [], cs, _, e => .inl e
  | (n, k) :: r, cs, h, e => by
    have e' : (clOf env r (if (k == NameKind.free) = true then (n, (env.cells.lookup n).getD 0) :: cs else cs)).lookup x = some c := e
    rcases clOf_get r _ (fun y hy => h y (List.mem_cons_of_mem _ hy)) e' with q | q
    · by_cases hk : (k == NameKind.free) = true
      · rw [if_pos hk] at q
        obtain ⟨d, hd⟩ := h (n, k) List.mem_cons_self (by simpa using hk)
        have hd' : env.cells.lookup n = some d := hd
        rw [List.lookup_cons] at q
        by_cases hx : (x == n) = true
        · rw [hx] at q
          have ex : x = n := by simpa using hx
          subst ex
          rw [hd'] at q
          simp at q
          exact .inr (by rw [hd', q])
        · simp only [hx] at q
          exact .inl q
      · rw [if_neg hk] at q
        exact .inl q
    · exact .inr q
theorem clOf_keep {env : Env} {x : Str} : ∀ (names : List (Str × NameKind)) (cs : List (Str × Addr)), (∃ c, cs.lookup x = some c) -> ∃ c, (clOf env names cs).lookup x = some c
  | [], cs, h => h
  | (n, k) :: r, cs, h => by
    refine clOf_keep r _ ?_
    by_cases hk : (k == NameKind.free) = true
    · rw [if_pos hk, List.lookup_cons]
      cases hx : x == n with
      | true => exact ⟨_, rfl⟩
      | false => exact h
    · rw [if_neg hk]; exact h
theorem clOf_has {env : Env} {x : Str} : ∀ (names : List (Str × NameKind)) (cs : List (Str × Addr)), (x, NameKind.free) ∈ names -> ∃ c, (clOf env names cs).lookup x = some c
  | (n, k) :: r, cs, h => by
    show ∃ c, (clOf env r (if (k == NameKind.free) = true then (n, (env.cells.lookup n).getD 0) :: cs else cs)).lookup x = some c
    rcases List.mem_cons.mp h with e | e
    · cases e
      refine clOf_keep r _ ⟨(env.cells.lookup x).getD 0, ?_⟩
      rw [if_pos (by rfl), List.lookup_cons]
      simp
    · exact clOf_has r _ e
def relN (env : Env) (names : List (Str × NameKind)) : List (Str × NameKind) :=
  names.map fun (n, k) => if (k == NameKind.free && env.scope.kind == .function && env.kindOf n == some .cell) then (n, NameKind.cell) else (n, k)
theorem relN_get {env : Env} {x : Str} {k' : NameKind} : ∀ (names : List (Str × NameKind)), (relN env names).lookup x = some k' -> ∃ k, names.lookup x = some k /\ (k' = k \/ (k = .free /\ k' = .cell))
  | [], h => by simp [relN] at h
  | (n, k) :: r, h => by
    have ih := relN_get (env := env) (x := x) (k' := k') r
    have h' : ((if (k == NameKind.free && env.scope.kind == .function && env.kindOf n == some .cell) = true then (n, NameKind.cell) else (n, k)) :: relN env r).lookup x = some k' := h
    by_cases hc : (k == NameKind.free && env.scope.kind == .function && env.kindOf n == some .cell) = true
    · rw [if_pos hc, List.lookup_cons] at h'
      rw [List.lookup_cons]
      cases hx : x == n with
      | true =>
        rw [hx] at h'
        have h2 : NameKind.cell = k' := Option.some.inj h'
        have hk : k = .free := by
          cases k <;> first | rfl | (simp at hc)
        exact ⟨k, rfl, .inr ⟨hk, h2.symm⟩⟩
      | false =>
        rw [hx] at h'
        exact ih h'
    · rw [if_neg hc, List.lookup_cons] at h'
      rw [List.lookup_cons]
      cases hx : x == n with
      | true =>
        rw [hx] at h'
        exact ⟨k, rfl, .inl (Option.some.inj h').symm⟩
      | false =>
        rw [hx] at h'
        exact ih h'
def cxComp (X : Cx) (scope : Scope) (N' : List Str) (fp : List Addr) (C : Addr) (s : Shared) (H : Hp) : Cx where
  prog := X.prog
  w := X.w
  K := X.K
  mg := X.mg
  base := X.base
  A := X.A
  N := N'
  s₀ := s
  H₀ := H
  env := compEnvC scope (clOf X.env scope.names []) C X.env
  outer := X.stack
  stack := X.stack
  ex := fp
  fn := fun _ => false
  calm := true
  pn := X.pn
  xe := fun _ _ => False
def stComp (fr : List (Option Nat)) (σ : St) : St := fr.map fun o => o.bind fun j => (σ[j]?).join
def frOk (N : List Str) (kinds names : List (Str × NameKind)) (N' : List Str) (fr : List (Option Nat)) : Bool :=
  (N'.length == fr.length) && (N'.zip fr).all fun p => match p.2 with
    | none => true
    | some j => N[j]? == some p.1 && names.lookup p.1 == some NameKind.free && (kinds.lookup p.1 == some NameKind.cell || kinds.lookup p.1 == some NameKind.free)
theorem frOk_at {N : List Str} {kinds names : List (Str × NameKind)} {N' : List Str} {fr : List (Option Nat)} (h : frOk N kinds names N' fr = true) {i j : Nat} {x : Str} (h1 : N'[i]? = some x) (h2 : fr[i]? = some (some j)) :
    N[j]? = some x /\ names.lookup x = some NameKind.free /\ (kinds.lookup x = some NameKind.cell \/ kinds.lookup x = some NameKind.free) := by
  unfold frOk at h
  rw [Bool.and_eq_true, List.all_eq_true] at h
  have hm : (x, some j) ∈ N'.zip fr := by
    refine List.mem_of_getElem? (i := i) ?_
    rw [List.getElem?_zip_eq_some]
    exact ⟨h1, h2⟩
  have q := h.2 _ hm
  simp only [Bool.and_eq_true, Bool.or_eq_true, beq_iff_eq] at q
  exact ⟨q.1.1, q.1.2, q.2⟩
structure CompOk (X : Cx) (scope : Scope) (N' : List Str) (fr : List (Option Nat)) : Prop where
  kind : scope.kind = .function
  cells : ∀ y ∈ scope.names, y.2 ≠ .cell
  names : ∀ y ∈ scope.names, y.2 = .local -> scope.names.lookup y.1 = some .local
  frees : ∀ y ∈ scope.names, y.2 = .free -> X.env.kindOf y.1 = some .cell \/ X.env.kindOf y.1 = some .free
  fr : frOk X.N X.env.scope.names scope.names N' fr = true
section
variable {X : Cx} {scope : Scope} {N' : List Str} {fr : List (Option Nat)} {pins : List (Addr × Obj)} {σ : St} {H : Hp} {s : Shared} {fp : List Addr}
theorem CompOk.has (c : CompOk X scope N' fr) (ok : X.Ok) : ∀ y ∈ scope.names, y.2 = .free -> ∃ d, X.env.cells.lookup y.1 = some d := fun y hy h => ok.has _ (c.frees y hy h)
theorem inv_comp {C : Addr} {h' : Heap} {tk : Nat} {m : Str -> Option Value} (c : CompOk X scope N' fr) (hc : X.calm = true) (I : Inv X pins σ H s) (hf : ∀ b ∈ fp, FpOk X pins H b) (hlt : ∀ b ∈ fp, b < s.heap.objs.size)
    (old : ∀ b o, s.heap.get? b = some o -> h'.get? b = some o) (hC : s.heap.objs.size <= C) (hn : h'.Ns C m) :
    Inv (cxComp X scope N' fp C s H) pins (stComp fr σ) H { s with heap := h', toks := tk } := by
  have get : ∀ x d, (clOf X.env scope.names []).lookup x = some d -> X.env.cells.lookup x = some d := fun x d e => by
    rcases clOf_get scope.names [] (c.has I.ok) e with q | q
    · simp at q
    · exact q
  have old2 : ∀ b, b < s.heap.objs.size -> b ≠ C := fun b hb => Nat.ne_of_lt (Nat.lt_of_lt_of_le hb hC)
  have hl : (stComp fr σ).length = N'.length := by
    have q := c.fr
    unfold frOk at q
    rw [Bool.and_eq_true] at q
    have q1 : N'.length = fr.length := by simpa using q.1
    rw [stComp, List.length_map, q1]
  refine ⟨⟨I.ok.mod, c.kind, I.ok.glob, I.ok.blt, hC, ?_, ?_, (fun _ _ z => nomatch z), fun _ => I.ok.hd hc, I.ok.frames, .inl rfl, ?_, I.bs, Nat.le_trans I.ok.bsz I.sz, ?_, ?_, I.stack, I.stkFree⟩, rfl, I.bare, Un.kept old, ⟨m, hn, ?_⟩, ?_, I.hok.fresh hC, ?_, ?_, I.hok.kept old, hl⟩
  · exact fun x y d e1 e2 => I.ok.inj x y d (get x d e1) (get y d e2)
  · intro x hx
    have hx' : (relN X.env scope.names).lookup x = some .cell \/ (relN X.env scope.names).lookup x = some .free := hx
    have fin : scope.names.lookup x = some .free -> ∃ d, (clOf X.env scope.names []).lookup x = some d := fun e => clOf_has scope.names [] (PySem.mem_of_lookup e)
    rcases hx' with q | q
    · obtain ⟨k, e, z⟩ := relN_get scope.names q
      rcases z with z | ⟨z, _⟩
      · subst z
        exact absurd rfl (c.cells _ (PySem.mem_of_lookup e))
      · subst z
        exact fin e
    · obtain ⟨k, e, z⟩ := relN_get scope.names q
      rcases z with z | ⟨_, z⟩
      · subst z
        exact fin e
      · cases z
  · exact fun b hb => ⟨old2 b (hlt b hb), fun x d e => (hf b hb).2.2.2.2.1 x d (get x d e)⟩
  · intro b o e hb
    rcases (hf b hb).2.2.2.1 with z | z
    · exact I.ok.noex b o e z
    · exact absurd (Nat.lt_of_lt_of_le (Heap.lt_size e) (Nat.le_trans I.ok.bsz z)) (Nat.lt_irrefl _)
  · intro b hb hs
    rcases List.mem_cons.mp (I.stkSub b hs) with z | z
    · exact (hf b hb).2.1 z
    · exact (hf b hb).2.2.1 z
  · intro i x v e1 e2 e3
    have e2' : (fr.map fun o => o.bind fun j => (σ[j]?).join)[i]? = some (some v) := e2
    rw [List.getElem?_map] at e2'
    cases q : fr[i]? with
    | none => rw [q] at e2'; cases e2'
    | some o =>
      rw [q] at e2'
      have e3' : (o.bind fun j => (σ[j]?).join) = some v := Option.some.inj e2'
      cases o with
      | none => cases e3'
      | some j =>
        have e4 : (σ[j]?).join = some v := e3'
        have e5 : σ[j]? = some (some v) := by
          cases z : σ[j]? with
          | none => rw [z] at e4; cases e4
          | some w => rw [z] at e4; exact congrArg some e4
        obtain ⟨f1, f2, f3⟩ := frOk_at c.fr e1 q
        obtain ⟨m0, hn0, hl0⟩ := I.loc
        have vis : Vis X.env.scope x := f3.elim (fun z => .inr (.inl z)) fun z => .inr (.inr z)
        obtain ⟨u, r, look⟩ := hl0 j x v f1 e5 vis
        refine ⟨u, r, ?_⟩
        rcases look with ⟨k, _⟩ | ⟨k, d, hd, hcell⟩
        · have k' : X.env.scope.names.lookup x = some .local := k
          rcases f3 with z | z <;> (rw [k'] at z; cases z)
        · refine .inr ⟨?_, d, ?_, ?_⟩
          · have e3'' : (relN X.env scope.names).lookup x = some .local \/ (relN X.env scope.names).lookup x = some .cell \/ (relN X.env scope.names).lookup x = some .free := e3
            rcases e3'' with z | z | z
            · obtain ⟨k2, e, z2⟩ := relN_get scope.names z
              rw [f2] at e
              cases e
              rcases z2 with z2 | ⟨_, z2⟩ <;> cases z2
            · exact .inl z
            · exact .inr z
          · obtain ⟨d', e⟩ := clOf_has (env := X.env) scope.names [] (PySem.mem_of_lookup f2)
            have := get x d' e
            rw [hd] at this
            cases this
            exact e
          · obtain ⟨ob, h1, h2⟩ := hcell
            exact ⟨ob, old _ _ h1, h2⟩
  · intro x d e
    obtain ⟨v, ob, h1, h2⟩ := I.cell x d (get x d e)
    exact ⟨v, ob, old _ _ h1, h2⟩
  · exact fun x d e => I.freeC x d (get x d e)
  · intro p hp
    obtain ⟨e, n, ne, nf, dd⟩ := I.pin p hp
    refine ⟨old _ _ e, n, old2 _ (Heap.lt_size e), fun hs => ?_, dd⟩
    rcases List.mem_cons.mp (I.stkSub p.1 hs) with z | z
    · exact ne z
    · exact nf z
end
section
variable {prog : Program} {w : World} {A : Around} {R : Result -> Shared -> Prop} {s : Shared}
theorem comp_loop {elt tg iter : Expr} {ifs : List Expr} {scope : Scope} {pos : Pos} {it acc : Value} {env : Env} (J : Nat -> Shared -> Prop)
    (turn : ∀ n s, J n s -> wpAny (model prog w) A (pyNext it) (fun r s1 => match r with
      | none => R (.ok .next) s1
      | some v => wpAny (model prog w) A (letOwnedTupleGo tg it v) (fun _ s2 => wpAny (model prog w) A (assign tg env v) (fun _ s3 =>
          wpAny (model prog w) A (forIn ifs true fun c r => if r = true then do
            let ok <- isTrue c env (eval c env)
            pure (ForInStep.yield ok) else pure (ForInStep.yield r)) (fun ok s4 =>
              if ok = true then wpAny (model prog w) A (eval elt env) (fun x s5 =>
                wpAny (model prog w) A (call (.builtin "list.append") [acc, x]) (fun _ s6 => ∃ m, m < n /\ J m s6) (fun _ _ => False) s5) (fun _ _ => False) s4
              else ∃ m, m < n /\ J m s4) (fun _ _ => False) s3) (fun _ _ => False) s2) (fun _ _ => False) s1) (fun _ _ => False) s)
    (n : Nat) (h : J n s) : codeAny (model prog w) A (.compLoop (.ListComp elt [⟨tg, iter, ifs, 0⟩] scope pos) 0 it acc env) R s := by
  refine codeAny_loop rfl J (fun k s1 hJ => ?_) n h
  show wpAny _ A ((compTurn (.ListComp elt [⟨tg, iter, ifs, 0⟩] scope pos) 0 it acc env).onRaise (fun y => do noteFrame y env; theTreesLotGoes y)) _ _ s1
  refine wpAny_noted (wpAny_mono (E := fun _ _ => False) ?_ (fun _ _ q => q) fun _ _ z => z.elim)
  rw [compTurn_list]
  refine wpAny_bind (wpAny_standAt (wpAny_bind (thn (turn k s1 hJ) fun r s2 h2 => ?_)))
  cases r with
  | none => exact wpAny_pure h2
  | some v =>
    refine wpAny_bind (thn h2 fun _ s3 h3 => wpAny_bind (thn h3 fun _ s4 h4 => wpAny_bind (thn h4 fun ok s5 h5 => ?_)))
    cases ok with
    | false => exact wpAny_pure ⟨rfl, h5⟩
    | true =>
      refine wpAny_bind (wpAny_bind (thn h5 fun x s6 h6 => wpAny_bind (thn h6 fun _ s7 h7 => ?_)))
      exact wpAny_pure (wpAny_pure ⟨rfl, h7⟩)
end
theorem HOk.track {P : Program} {w : World} {H : Hp} {h : Heap} {a : Addr} {o : HO} (ok : HOk P w H h) (hn : H a = none) (new : ObjOk P w (upd H a o) h a o) : HOk P w (upd H a o) h := fun b u q => by
  by_cases hb : b = a
  · subst hb
    rw [upd_same] at q
    cases q
    exact new
  · rw [upd_ne hb] at q
    exact (ok b u q).stay (fun _ _ _ r => r) (fun c r => by rw [upd_ne (ne_of_none r hn)]; exact r) fun c xs r => by rw [upd_ne (ne_of_none r hn)]; exact r
def CompW (J : It) (g : TG) (tt : TT) (te : TE) (fin : List V -> Hp -> Prop) (W : Nat -> Nat -> List V -> St -> Hp -> Prop) : Prop :=
  ∀ i m ys σ H, W i m ys σ H -> (J.stop i H /\ ys.length <= sizeLine /\ fin ys H) \/ (J.go i H /\ ys.length < sizeLine /\ ∀ x H', J.yld i H x H' -> g x σ H' fun σ2 H2 => tt σ2 H2 fun b H3 =>
    if b = true then te σ2 H3 fun y H4 => ∃ m', m' < m /\ W (i + 1) m' (ys ++ [y]) σ2 H4 else ∃ m', m' < m /\ W (i + 1) m' ys σ2 H3)
section
variable {X : Cx} {scope : Scope} {N' : List Str} {fr : List (Option Nat)} {pins : List (Addr × Obj)} {σ : St} {H : Hp} {s : Shared} {fp : List Addr} {it : Addr} {tn : Nat -> Heap -> Prop} {J : It}
  {elt tg iter : Expr} {ifs : List Expr} {g : TG} {tt : TT} {te : TE} {pos : Pos} {fin : List V -> Hp -> Prop} {W : Nat -> Nat -> List V -> St -> Hp -> Prop} {RR : Value -> Addr -> Result -> Shared -> Prop} {E : Value -> Shared -> Prop}
theorem comp_block (c : CompOk X scope N' fr) (hc : X.calm = true) (I : Inv X pins σ H s) (T : Turn X.prog X.w X.K tg J fp it tn) (st : tn 0 s.heap) (hf : ∀ b ∈ fp, FpOk X pins H b)
    (hg : ∀ fp C s H, PG (cxComp X scope N' fp C s H) tg g) (ht : ∀ fp C s H, PIfs (cxComp X scope N' fp C s H) ifs tt) (he : ∀ fp C s H, PE (cxComp X scope N' fp C s H) elt te)
    (hW : CompW J g tt te fin W) (h0 : ∃ m, W 0 m [] (stComp fr σ) H)
    (hRR : ∀ D C ys H' s', Inv X pins σ (upd H' D (.lst ys)) s' -> (∃ m, s'.heap.Ns C m) -> FpOk X pins (upd H' D (.lst ys)) C -> H' D = none -> fin ys H' -> RR (.ref D) C (.ok .next) s') :
    wpAny (model X.prog X.w) X.A (newList []) (fun acc s3 => wpAny (model X.prog X.w) X.A (newFunctionEnv scope X.env.globals (clOf X.env scope.names []) [] X.env.qual none .none (some X.env)) (fun cenv s4 =>
      codeAny (model X.prog X.w) X.A (.compStart (.ListComp elt [⟨tg, iter, ifs, 0⟩] scope pos) 0 (.ref it) acc { cenv with scope := relabel scope X.env }) (RR acc cenv.locals) s4) E s3) E s := by
  refine wpAny_newObj_type (wpAny_newFunctionEnv c.cells (by intro y hy; simp at hy) (fun h1 hns hsb => ?_) c.kind)
  dsimp only at hns hsb ⊢
  generalize hH2 : s.heap.push { cls := .type "list", dict := none, data := .seq ([] : List Value).toArray } = H2 at hns hsb ⊢
  have hD0 : s.heap.objs.size < H2.objs.size := by rw [<- hH2, Heap.size_push]; exact Nat.lt_succ_self _
  generalize hDD : s.heap.objs.size = D at hD0 ⊢
  generalize hCC : H2.objs.size = C at hns hsb hD0 ⊢
  have up : ∀ b o, s.heap.get? b = some o -> h1.get? b = some o := fun b o e => hsb.extBut b o (by
    have := Heap.lt_size e
    rw [hDD] at this
    exact Nat.ne_of_lt (Nat.lt_trans this hD0)) (Heap.get?_push_of_some _ (by rw [<- hH2]; exact Heap.get?_push_of_some _ e))
  have accD : h1.get? D = some { cls := .type "list", dict := none, data := .seq ([] : List Value).toArray } := hsb.extBut _ _ (Nat.ne_of_lt hD0) (Heap.get?_push_of_some _ (by rw [<- hH2, <- hDD]; exact Heap.get?_push_size _ rfl))
  have hlt : ∀ b ∈ fp, b < s.heap.objs.size := fun b hb => by
    obtain ⟨o, e, _⟩ := T.obj 0 _ st b hb
    exact Heap.lt_size e
  have hle : s.heap.objs.size <= C := by rw [hDD]; exact Nat.le_of_lt hD0
  generalize hX' : cxComp X scope N' fp C s H = X'
  have I1 : Inv X' pins (stComp fr σ) H { s with heap := h1, toks := s.toks + ([] : List (Str × Value)).length } := by
    subst hX'
    exact inv_comp c hc I hf hlt up hle hns
  have st1 : tn 0 h1 := T.keep _ _ _ st fun b hb o e => up b o e
  have pm : X'.prog = X.prog := by subst hX'; rfl
  have wm : X'.w = X.w := by subst hX'; rfl
  have km : X'.K = X.K := by subst hX'; rfl
  have cm : X'.calm = true := by subst hX'; rfl
  have am : X'.A = X.A := by subst hX'; rfl
  have xm : X'.xe = fun _ _ => False := by subst hX'; rfl
  have lm : X'.env.locals = C := by subst hX'; rfl
  have szm : X'.s₀.heap.objs.size = s.heap.objs.size := by subst hX'; rfl
  have nm : X'.pn = X.pn := by subst hX'; rfl
  have hg' := hg fp C s H
  have ht' := ht fp C s H
  have he' := he fp C s H
  have em : X'.env = compEnvC scope (clOf X.env scope.names []) C X.env := by subst hX'; rfl
  have fsm : X'.fs = frs X.stack := by subst hX'; rfl
  have exm : X'.ex = fp := by subst hX'; rfl
  rw [hX'] at hg' ht' he'
  have ageP : ∀ p ∈ X.pn ++ pins, p.1 < D := fun p hp => by rw [<- hDD]; exact Heap.lt_size (I.pin p hp).1
  have ageC : ∀ x d, X'.env.cells.lookup x = some d -> d < D := fun x d e => by
    rw [em] at e
    rcases clOf_get scope.names [] (c.has I.ok) e with q | q
    · simp at q
    · obtain ⟨v, z⟩ := I.cell x d q
      rw [<- hDD]
      exact z.lt
  have cellF : ∀ x d, X'.env.cells.lookup x = some d -> X.env.cells.lookup x = some d := fun x d e => by
    rw [em] at e
    rcases clOf_get scope.names [] (c.has I.ok) e with q | q
    · simp at q
    · exact q
  have fps : ∀ {H' : Hp} {oD : Obj}, (∀ b ∈ fp, H' b = none) -> ∀ b ∈ fp, FpOk X' (pins ++ [(D, oD)]) H' b := fun {H' oD} hn b hb => by
    obtain ⟨_, f1, f2, f3, f4, f5⟩ := hf b hb
    have hbD : b < D := by rw [<- hDD]; exact hlt b hb
    refine ⟨hn b hb, ?_, ?_, .inl (by rw [exm]; exact hb), fun x d e => f4 x d (cellF x d e), fun p hp => ?_⟩
    · rw [lm]; exact Nat.ne_of_lt (Nat.lt_trans hbD hD0)
    · rw [fsm]
      intro hs
      rcases List.mem_cons.mp (I.stkSub b hs) with z | z
      · exact f1 z
      · exact f2 z
    · rw [nm, <- List.append_assoc] at hp
      rcases List.mem_append.mp hp with z | z
      · exact f5 p z
      · rw [List.mem_singleton.mp z]
        exact Nat.ne_of_gt hbD
  have pinD : ∀ {σ' : St} {H' : Hp} {s' : Shared} {its : List Value} {k : Nat}, Inv X' pins σ' H' s' -> s'.heap.get? D = some { cls := .type "list", data := .seq its.toArray k } -> H' D = none ->
      Inv X' (pins ++ [(D, { cls := .type "list", data := .seq its.toArray k })]) σ' H' s' := fun {σ' H' s' its k} J0 e n => J0.pins_of fun p hp => by
    rcases List.mem_append.mp hp with z | z
    · exact J0.pin p (List.mem_append_right _ z)
    · rw [List.mem_singleton.mp z]
      refine ⟨e, n, ?_, ?_, fun v q => by cases q⟩
      · show D ≠ X'.env.locals
        rw [lm]
        exact Nat.ne_of_lt hD0
      · rw [fsm]
        intro hs
        have hb := I.stkSub D hs
        rcases List.mem_cons.mp hb with z | z
        · have := I.lt
          rw [<- z, hDD] at this
          exact Nat.lt_irrefl _ this
        · exact I.nofs (Nat.le_of_eq hDD) z
  have loop : ∀ s0 : Shared, s0 = { s with heap := h1, toks := s.toks + ([] : List (Str × Value)).length } ->
      codeAny (model X.prog X.w) X.A (.compLoop (.ListComp elt [⟨tg, iter, ifs, 0⟩] scope pos) 0 (.ref it) (.ref D) X'.env) (RR (.ref D) C) s0 := by
    rintro s0 rfl
    obtain ⟨m0, w0⟩ := h0
    refine comp_loop (fun n s' => ∃ i ys σ' H' its k, Inv X' pins σ' H' s' /\ tn i s'.heap /\ (∀ b ∈ fp, H' b = none) /\ s'.heap.get? D = some { cls := .type "list", data := .seq (its : List Value).toArray k } /\ H' D = none /\ Vals ys its /\ W i n ys σ' H')
      ?_ m0 ⟨0, [], stComp fr σ, H, [], 0, I1, st1, fun b hb => (hf b hb).1, accD, I.hok.fresh (by rw [hDD]; exact Nat.le_refl _), .nil, w0⟩
    rintro n s1 ⟨i, ys, σ1, H1, its, k, J1, t1, n1, d1, nD1, v1, w1⟩
    have J1' := pinD J1 d1 nD1
    rcases hW i n ys σ1 H1 w1 with ⟨stop, hlen, fi⟩ | ⟨go, hlen, step⟩
    · have a1 := T.done X' pm wm km cm i _ s1 σ1 H1 (fun _ _ => False) J1' (fps n1) t1 stop
      rw [am] at a1
      refine thn a1 fun r s2 ⟨hr, J2⟩ => ?_
      subst hr
      obtain ⟨d2, nD2, _⟩ := J2.pin (D, _) (List.mem_append_right _ (List.mem_append_right _ List.mem_cons_self))
      have u2 : Un (frs X.stack) fp H H1 s.heap s2.heap := by
        have := J2.base
        subst hX'
        exact this
      have hok2 : HOk X.prog X.w (upd H1 D (.lst ys)) s2.heap := by
        have h2 := J2.hok
        rw [pm, wm] at h2
        exact h2.track nD1 ⟨hlen, its, k, v1, d2⟩
      have J3 : Inv X pins σ (upd H1 D (.lst ys)) s2 := by
        refine I.call' (ch := fp) (by have := J2.os; subst hX'; exact this) ⟨fun b o e n hb hx => u2.keep b o e n hb hx, fun b o e n hb hx => u2.slot b o e n hb hx, fun b o e n hx => ?_, fun b o e hx => u2.there b o e hx, fun b xs e => ?_, fun b o u e => ?_, fun b ps e => ?_⟩ hok2 J2.bare fun b hb => ?_
        · have ne : b ≠ D := Nat.ne_of_lt (by rw [<- hDD]; exact Heap.lt_size e)
          rw [upd_ne ne]
          exact u2.free b o e n hx
        · have q := u2.tups b xs e
          rw [upd_ne (ne_of_none q nD1)]
          exact q
        · have q := u2.frzs b o u e
          rw [upd_ne (ne_of_none q nD1)]
          exact q
        · obtain ⟨more, q⟩ := u2.tbls b ps e
          exact ⟨more, by rw [upd_ne (ne_of_none q nD1)]; exact q⟩
        · obtain ⟨_, f1, f2, f3, f4, f5⟩ := hf b hb
          exact ⟨f3, f1, f4, f5⟩
      have nC : (upd H1 D (.lst ys)) C = none := by
        rw [upd_ne (Nat.ne_of_gt hD0)]
        have := J2.free
        rw [lm] at this
        exact this
      refine hRR D C ys H1 s2 J3 ?_ (I.fpOk hle nC) nD1 fi
      obtain ⟨m, hm, _⟩ := J2.loc
      rw [lm] at hm
      exact ⟨m, hm⟩
    · have a1 := T.item X' pm wm km cm i _ s1 σ1 H1 (fun _ _ => False) J1' (fps n1) t1 go
      rw [am] at a1
      refine thn a1 fun r s2 ⟨u, hr, h2⟩ => ?_
      subst hr
      refine thn h2 fun _ s3 ⟨x, H3, J3, r3, y3, t3, n3⟩ => ?_
      have J3' := J3.pinned (fps n3) (T.obj _ _ t3)
      have a3 := hg' _ s3 σ1 H3 x u _ J3' r3 (step x H3 y3)
      rw [pm, wm, am, xm] at a3
      refine thn a3 fun _ s4 ⟨σ4, H4, J4, q4⟩ => ?_
      have a4 := ht' _ s4 σ4 H4 _ J4 q4
      rw [pm, wm, am, xm] at a4
      refine thn a4 fun ok s5 ⟨H5, J5, q5⟩ => ?_
      have keepT : ∀ {σ' : St} {H' : Hp} {s' : Shared}, Inv X' (pins ++ [(D, { cls := .type "list", data := .seq its.toArray k })] ++ pinsAt fp s3.heap) σ' H' s' -> tn (i + 1) s'.heap /\ (∀ b ∈ fp, H' b = none) /\ s'.heap.get? D = some { cls := .type "list", data := .seq its.toArray k } /\ H' D = none /\ Inv X' pins σ' H' s' := fun {σ' H' s'} J0 => by
        refine ⟨T.keep _ _ _ t3 fun b hb o e => (J0.pin (b, o) (List.mem_append_right _ (List.mem_append_right _ (mem_pinsAt hb e)))).1, fun b hb => ?_, ?_, ?_, J0.unpinned.unpinned⟩
        · obtain ⟨o, e, _⟩ := T.obj _ _ t3 b hb
          exact (J0.pin (b, o) (List.mem_append_right _ (List.mem_append_right _ (mem_pinsAt hb e)))).2.1
        · exact (J0.pin (D, _) (List.mem_append_right _ (List.mem_append_left _ (List.mem_append_right _ List.mem_cons_self)))).1
        · exact (J0.pin (D, { cls := .type "list", data := .seq its.toArray k }) (List.mem_append_right _ (List.mem_append_left _ (List.mem_append_right _ List.mem_cons_self)))).2.1
      cases ok with
      | false =>
        obtain ⟨m', hm, w'⟩ := q5
        obtain ⟨e1, e2, e3, e4, e5⟩ := keepT J5
        rw [if_neg Bool.false_ne_true]
        exact ⟨m', hm, i + 1, ys, σ4, H5, its, k, e5, e1, e2, e3, e4, v1, w'⟩
      | true =>
        rw [if_pos rfl]
        have a5 := he' _ s5 σ4 H5 _ J5 q5
        rw [pm, wm, am, xm] at a5
        refine thn a5 fun u6 s6 ⟨y, H6, J6, r6, m', hm, w6⟩ => ?_
        obtain ⟨e1, e2, e3, e4, e5⟩ := keepT J6
        refine append_at (hsz := by show its.toArray.size <= sizeLine; rw [List.size_toArray, <- v1.length]; exact Nat.le_of_lt hlen) e3 fun h7 sb7 d7 => ?_
        have J7 : Inv X' pins σ4 H6 { s6 with heap := h7 } := e5.turned (t' := s6.toks) (it := D) (fun b o hb e => sb7.extBut b o hb e) e4 (by rw [lm]; exact Nat.ne_of_lt hD0) (.inr (by rw [szm, hDD]; exact Nat.le_refl _)) (fun x d e => Nat.ne_of_lt (ageC x d e)) fun p hp => by
          rw [nm] at hp
          exact Nat.ne_of_lt (ageP p hp)
        refine ⟨m', hm, i + 1, ys ++ [y], σ4, H6, its ++ [u6], k + 1, J7, T.keep _ _ _ e1 fun b hb o e => sb7.extBut b o (Nat.ne_of_lt (by rw [<- hDD]; exact hlt b hb)) e, e2, ?_, e4, v1.append (.cons r6 .nil), w6⟩
        rw [d7, List.push_toArray]
  have env1 : ({ newEnv scope C X.env.globals (clOf X.env scope.names []) X.env.qual none .none (some X.env) 0 with scope := relabel scope X.env } : Env) = X'.env := by rw [em]; rfl
  have lp := loop _ rfl
  rw [em] at lp
  exact codeAny_compStart_list lp (T.self _ 0 _ _ _ st1 lp)
def tComp (wi : TI) (fr : List (Option Nat)) (g : TG) (tt : TT) (te : TE) : TE := fun σ H Q => wi σ H fun J H1 =>
  ∃ W, CompW J g tt te (fun ys H' => ∀ p, H' p = none -> Q (.ref p) (upd H' p (.lst ys))) W /\ ∃ m, W 0 m [] (stComp fr σ) H1
theorem pe_comp {wi : TI} (c : CompOk X scope N' fr) (hc : X.calm = true) (hi : PI X tg iter wi) (hg : ∀ fp C s H, PG (cxComp X scope N' fp C s H) tg g) (ht : ∀ fp C s H, PIfs (cxComp X scope N' fp C s H) ifs tt)
    (he : ∀ fp C s H, PE (cxComp X scope N' fp C s H) elt te) (hs : ∀ x, foldedSetIterable iter X.env x = pure x := by intro _; rfl) : PE X (.ListComp elt [⟨tg, iter, ifs, 0⟩] scope pos) (tComp wi fr g tt te) := by
  intro pins s σ H Q I h
  rw [eval_ListComp]
  refine wpAny_comprehension_free (use := none) rfl hs (closure_is (c.has I.ok)) c.kind c.names (thn (hi pins s σ H _ I h) fun v s1 h1 => thn h1 fun itv s2 h2 => ?_)
  obtain ⟨it, fp, tn, J, H2, e, I2, T, st2, f2, W, hW, h0⟩ := h2
  subst e
  refine comp_block c hc I2 T st2 f2 hg ht he hW h0 ?_
  rintro D C ys H' s' J3 ⟨m, hm⟩ ⟨f0, f1, _, f3, f4, f5⟩ nD fi
  exact ⟨m, hm, fun h'' sb => ⟨.ref D, _, J3.turned (t' := s'.toks) (it := C) (fun b o hb e => sb.extBut b o hb e) f0 f1 f3 f4 f5, rfl, fi D nD⟩⟩
def tSetComp (i : Nat) (wi : TI) (fr : List (Option Nat)) (g : TG) (tt : TT) (te : TE) : TS := fun D σ H => wi σ H fun J H1 =>
  ∃ W, CompW J g tt te (fun ys H' => ∀ p, H' p = none -> D.nx (σ.set i (some (.ref p))) (upd H' p (.lst ys))) W /\ ∃ m, W 0 m [] (stComp fr σ) H1
theorem ps_setComp {wi : TI} {i : Nat} {y : Str} {py spos : Pos} (hN : X.N.Nodup) (hi' : X.N[i]? = some y) (hy : Loc X.env.scope y) (c : CompOk X scope N' fr) (hc : X.calm = true) (hi : PI X tg iter wi) (hg : ∀ fp C s H, PG (cxComp X scope N' fp C s H) tg g) (ht : ∀ fp C s H, PIfs (cxComp X scope N' fp C s H) ifs tt)
    (he : ∀ fp C s H, PE (cxComp X scope N' fp C s H) elt te) (hs : ∀ x, foldedSetIterable iter X.env x = pure x := by intro _; rfl)
    (hsw : swapsWith (.ListComp elt [⟨tg, iter, ifs, 0⟩] scope pos) (some (.Name y py)) spos.line X.env = pure true := by rfl) (hf : X.fn y = true \/ X.env.scope.names.lookup y = some .local := by first | exact .inl rfl | exact .inr rfl | assumption) :
    PS X (.Assign [.Name y py] (.ListComp elt [⟨tg, iter, ifs, 0⟩] scope pos) spos) (tSetComp i wi fr g tt te) := by
  intro pins s σ H D I h
  rw [exec_Assign_Name_used _ _ _ _ hsw]
  refine wpAny_bind (wpAny_standAt (wpAny_bind ?_))
  show wpAny _ X.A (do let _ <- comprehension (.ListComp elt [⟨tg, iter, ifs, 0⟩] scope pos) scope X.env _ (newList []) false (eval iter X.env) (some (assign (.Name y py) X.env))) _ _ s
  refine wpAny_bind (thn (wpAny_comprehension_free (use := some (assign (.Name y py) X.env)) (Q := fun _ s' => SP X pins D .next s') rfl hs (closure_is (c.has I.ok)) c.kind c.names
    (thn (hi pins s σ H _ I h) fun v s1 h1 => thn h1 fun itv s2 h2 => ?_)) fun _ s' hq => wpAny_pure (wpAny_pure hq))
  obtain ⟨it, fp, tn, J, H2, e, I2, T, st2, f2, W, hW, h0⟩ := h2
  subst e
  refine comp_block c hc I2 T st2 f2 hg ht he hW h0 ?_
  rintro B C ys H' s' J3 ⟨m, hm⟩ ⟨f0, f1, _, f3, f4, f5⟩ nD fi
  show wpAny _ X.A (assign (.Name y py) X.env (.ref B)) _ _ s'
  refine wpAny_assign_Name (store_ok2 J3 hN hi' hy (show RelV (.ref B) (.ref B) from rfl) (fun s4 J4 ⟨a, sb, ha⟩ => ?_) hf)
  have nCa : C ≠ a := by
    rcases ha with z | z
    · rw [z]; exact f1
    · exact fun q => f4 y a z q.symm
  exact ⟨m, hm.sameBut sb nCa, fun h'' sb2 => ⟨_, _, J4.turned (t' := s4.toks) (it := C) (fun b o hb e => sb2.extBut b o hb e) f0 f1 f3 f4 f5, fi B nD⟩⟩
end
section
variable {X : Cx}
theorem call_isinst : CallR X (.builtin "isinstance") (fun xs H Q => ∃ x c t u b, xs = [x, c] /\ RelV c u /\ TyOf X.K H x t /\ PySem.W.kitOne X.K t u = some b /\ Q (.bl b) H) := by
  intro pins s σ H xs us Q I r h
  obtain ⟨x, c, t, u, b, rfl, rc, ty, e, q⟩ := h
  obtain ⟨u1, u2, rfl, r1, r2⟩ := Vals.two r
  have hu : u2 = u := by
    cases c <;> first
      | exact (show u2 = _ from r2).trans (show u = _ from rc).symm
      | skip
    all_goals (exfalso; obtain ⟨_, rfl⟩ := rc; unfold PySem.W.kitOne PySem.W.kitCls at e; split at e <;> first | (cases ty <;> simp_all) | (simp at e))
  subst hu
  exact isinst_ok I r1 ty e fun tk => ⟨.bl b, H, I.tok tk, rfl, q⟩
inductive SameD (K : PySem.W.Frag) (H : Hp) : Nat -> V -> V -> Prop
  | flat {n : Nat} {x : V} (f : flatV x = true) : SameD K H n x x
  | tup {n : Nat} {a b : Addr} {xs ys : List V} (ha : SqT K H a xs) (hb : SqT K H b ys) (hl : xs.length = ys.length) (h : ∀ (i : Nat) (x y : V), xs[i]? = some x -> ys[i]? = some y -> SameD K H n x y) : SameD K H (n + 1) (.ref a) (.ref b)
  | lst {n : Nat} {a b : Addr} {xs ys : List V} (ha : SqL K H a xs) (hb : SqL K H b ys) (hl : xs.length = ys.length) (h : ∀ (i : Nat) (x y : V), xs[i]? = some x -> ys[i]? = some y -> SameD K H n x y) : SameD K H (n + 1) (.ref a) (.ref b)
theorem eqV_self {x : V} (f : flatV x = true) : eqV x x = true := by
  cases x <;> first | (exact absurd (show false = true from f) Bool.false_ne_true) | rfl | (simp [eqV])
theorem range_all_true (n : Nat) (e : Nat -> Bool) (h : ∀ i, e i = true) : (List.range n).all e = true := by
  rw [List.all_eq_true]; intro i _; exact h i
theorem in1_units {A : Around} : A.in1.units <= A.units + 1 := by
  first
    | exact Nat.le_refl _
    | exact Nat.le_succ _
    | (simp [Around.in1])
theorem SameD.rc {pins : List (Addr × Obj)} {σ : St} {H : Hp} {s : Shared} (I : Inv X pins σ H s) {n : Nat} {x y : V} (h : SameD X.K H n x y) : ∀ (A : Around), A.units + n < cLine -> ∀ (u v : Value), RelV x u -> RelV y v -> SeqAt.EqAt A s u v true := by
  induction h with
  | flat f => intro A hu u v ru rv; have := eqAt_V (A := A) (s := s) ru rv f f; rw [eqV_self f] at this; exact this
  | @tup n a b xs ys ha hb hl _ ih =>
    intro A hu u v ru rv
    cases (show u = Value.ref a from ru)
    cases (show v = Value.ref b from rv)
    by_cases e : a = b
    · subst e; exact SeqAt.EqAt.same _
    · obtain ⟨its, r1, t1, _⟩ := I.tuple ha
      obtain ⟨its2, r2, t2, _⟩ := I.tuple hb
      have hz : its.toArray.size = its2.toArray.size := by simp [<- r1.length, <- r2.length, hl]
      refine SeqAt.EqAt.of_refs e ?_
      have q := SeqAt.RcAt.tuples (e := fun _ => true) (A := A) t1 t2 (by lia) (fun j h1 h2 => ?_)
      · rw [range_all_true _ _ (fun _ => rfl), hz] at q
        simpa using q
      · have l1 : j < xs.length := by have := r1.length; simp at h1; lia
        have l2 : j < ys.length := by lia
        obtain ⟨u1, e1, q1⟩ := r1.get (i := j) (x := xs[j]) (by simp [l1])
        obtain ⟨u2, e2, q2⟩ := r2.get (i := j) (x := ys[j]) (by simp [l2])
        have w1 : its.toArray[j] = u1 := by have := List.getElem?_eq_some_iff.mp e1; simpa using this.2
        have w2 : its2.toArray[j] = u2 := by have := List.getElem?_eq_some_iff.mp e2; simpa using this.2
        rw [w1, w2]
        exact ih j _ _ (by simp [l1]) (by simp [l2]) A.in1 (by have := @in1_units A; lia) _ _ q1 q2
  | @lst n a b xs ys ha hb hl _ ih =>
    intro A hu u v ru rv
    cases (show u = Value.ref a from ru)
    cases (show v = Value.ref b from rv)
    by_cases e : a = b
    · subst e; exact SeqAt.EqAt.same _
    · obtain ⟨its, r1, t1, _⟩ := I.list ha
      obtain ⟨its2, r2, t2, _⟩ := I.list hb
      have hz : its.toArray.size = its2.toArray.size := by simp [<- r1.length, <- r2.length, hl]
      refine SeqAt.EqAt.of_refs e ?_
      have q := SeqAt.RcAt.lists (e := fun _ => true) (A := A) t1.isList t2.isList hz (by lia) (fun j h1 h2 => ?_)
      · rw [range_all_true _ _ (fun _ => rfl)] at q
        exact q
      · have l1 : j < xs.length := by have := r1.length; simp at h1; lia
        have l2 : j < ys.length := by lia
        obtain ⟨u1, e1, q1⟩ := r1.get (i := j) (x := xs[j]) (by simp [l1])
        obtain ⟨u2, e2, q2⟩ := r2.get (i := j) (x := ys[j]) (by simp [l2])
        have w1 : its.toArray[j] = u1 := by have := List.getElem?_eq_some_iff.mp e1; simpa using this.2
        have w2 : its2.toArray[j] = u2 := by have := List.getElem?_eq_some_iff.mp e2; simpa using this.2
        rw [w1, w2]
        exact ih j _ _ (by simp [l1]) (by simp [l2]) A.in1 (by have := @in1_units A; lia) _ _ q1 q2
def rSame (K : PySem.W.Frag) (out : Bool) : R2 := fun x y H Q => ∃ a b xs ys n, x = .ref a /\ y = .ref b /\ ((SqT K H a xs /\ SqT K H b ys) \/ (SqL K H a xs /\ SqL K H b ys)) /\ xs.length = ys.length /\ n <= 64 /\
  (∀ (i : Nat) (x y : V), xs[i]? = some x -> ys[i]? = some y -> SameD K H n x y) /\ Q (.bl out) H
theorem same_items {pins : List (Addr × Obj)} {σ : St} {H : Hp} {s : Shared} (I : Inv X pins σ H s) {A : Around} {n : Nat} {xs ys : List V} {its its2 : List Value} (hu : A.units + n < cLine) (r1 : Vals xs its) (r2 : Vals ys its2) (hl : xs.length = ys.length)
    (h : ∀ (i : Nat) (x y : V), xs[i]? = some x -> ys[i]? = some y -> SameD X.K H n x y) : ∀ j (h1 : j < its.toArray.size) (h2 : j < its2.toArray.size), SeqAt.EqAt A s its.toArray[j] its2.toArray[j] true := by
  intro j h1 h2
  have l1 : j < xs.length := by have := r1.length; simp at h1; lia
  have l2 : j < ys.length := by lia
  obtain ⟨u1, e1, q1⟩ := r1.get (i := j) (x := xs[j]) (by simp [l1])
  obtain ⟨u2, e2, q2⟩ := r2.get (i := j) (x := ys[j]) (by simp [l2])
  have w1 : its.toArray[j] = u1 := by have := List.getElem?_eq_some_iff.mp e1; simpa using this.2
  have w2 : its2.toArray[j] = u2 := by have := List.getElem?_eq_some_iff.mp e2; simpa using this.2
  rw [w1, w2]
  exact (h j _ _ (by simp [l1]) (by simp [l2])).rc I A hu _ _ q1 q2
theorem op_eqS (hu : X.A.units + 66 < cLine) : OpR X (compareOp .Eq) (rSame X.K true) := by
  intro pins s σ H x y v u Q I rx ry h
  obtain ⟨a, b, xs, ys, n, rfl, rfl, hk, hl, hn, hs, q⟩ := h
  cases (show v = Value.ref a from rx)
  cases (show u = Value.ref b from ry)
  have hu1 : X.A.in1.units + n < cLine := by have := @in1_units X.A; lia
  rcases hk with ⟨ha, hb⟩ | ⟨ha, hb⟩
  · obtain ⟨its, r1, t1, _⟩ := I.tuple ha
    obtain ⟨its2, r2, t2, _⟩ := I.tuple hb
    have hz : its.toArray.size = its2.toArray.size := by simp [<- r1.length, <- r2.length, hl]
    refine SeqAt.eq_tupleAt (e := fun _ => true) t1 t2 (by lia) (same_items I hu1 r1 r2 hl hs) ?_
    rw [range_all_true _ _ (fun _ => rfl), hz]
    exact ⟨.bl true, H, I, by simp [RelV], q⟩
  · obtain ⟨its, r1, t1, _⟩ := I.list ha
    obtain ⟨its2, r2, t2, _⟩ := I.list hb
    have hz : its.toArray.size = its2.toArray.size := by simp [<- r1.length, <- r2.length, hl]
    refine SeqAt.eq_listAt (e := fun _ => true) t1.isList t2.isList hz (by lia) (same_items I hu1 r1 r2 hl hs) ?_
    rw [range_all_true _ _ (fun _ => rfl)]
    exact ⟨.bl true, H, I, rfl, q⟩
theorem op_neS (hu : X.A.units + 66 < cLine) : OpR X (compareOp .NotEq) (rSame X.K false) := by
  intro pins s σ H x y v u Q I rx ry h
  obtain ⟨a, b, xs, ys, n, rfl, rfl, hk, hl, hn, hs, q⟩ := h
  cases (show v = Value.ref a from rx)
  cases (show u = Value.ref b from ry)
  have hu1 : X.A.in1.units + n < cLine := by have := @in1_units X.A; lia
  rcases hk with ⟨ha, hb⟩ | ⟨ha, hb⟩
  · obtain ⟨its, r1, t1, _⟩ := I.tuple ha
    obtain ⟨its2, r2, t2, _⟩ := I.tuple hb
    have hz : its.toArray.size = its2.toArray.size := by simp [<- r1.length, <- r2.length, hl]
    refine EqBoolInt.of_rcne (SeqAt.RcNeAt.tuples (e := fun _ => true) t1 t2 (by lia) (same_items I hu1 r1 r2 hl hs)) ?_
    rw [range_all_true _ _ (fun _ => rfl), hz]
    exact ⟨.bl false, H, I, by simp [RelV], q⟩
  · obtain ⟨its, r1, t1, _⟩ := I.list ha
    obtain ⟨its2, r2, t2, _⟩ := I.list hb
    have hz : its.toArray.size = its2.toArray.size := by simp [<- r1.length, <- r2.length, hl]
    refine EqBoolInt.of_rcne (SeqAt.RcNeAt.lists (e := fun _ => true) t1.isList t2.isList hz (by lia) (same_items I hu1 r1 r2 hl hs)) ?_
    rw [range_all_true _ _ (fun _ => rfl)]
    exact ⟨.bl false, H, I, rfl, q⟩
end
section
variable {X : Cx} {pins : List (Addr × Obj)} {σ : St} {H : Hp} {s : Shared}
theorem Inv.turnM {ch : List Addr} {t' : Nat} {h' : Heap} (I : Inv X pins σ H s) (hf : ∀ b ∈ ch, FpOk X pins H b) (k : ∀ b u, b ∉ ch -> s.heap.get? b = some u -> h'.get? b = some u) : Inv X pins σ H { s with heap := h', toks := t' } := by
  have nch : ∀ b u, H b = some u -> b ∉ ch := fun b u e z => by have := (hf b z).1; rw [this] at e; cases e
  refine I.step (g' := s.gens) (d' := s.drawn) (ch := ch) (fun b hb => ⟨(hf b hb).2.2.2.1, (hf b hb).2.1, (hf b hb).2.2.2.2.1, (hf b hb).2.2.2.2.2⟩) (fun b o _ _ hc e _ => k b o hc e) (fun b o _ _ hc e _ => ⟨o.slots, k b o hc e⟩) (fun _ _ _ _ n => n)
    (fun b o hc e => ⟨o, k b o hc e⟩) (fun _ _ e => e) (fun _ _ _ e => e) (fun b ps e => ⟨#[], by rw [e]; simp⟩) (fun m hm => ?_) (fun b u e => ?_) I.bare
  · obtain ⟨o, es, ep, ho, r⟩ := hm
    exact ⟨o, es, ep, k _ o (fun z => (hf _ z).2.1 rfl) ho, r⟩
  · refine (I.hok b u e).stay (fun c v hc q => k c v ?_ q) (fun _ q => q) fun _ _ q => q
    rcases hc with z | z
    · rw [z]; exact nch b u e
    · exact nch c _ z
theorem Inv.turnNew {ch : List Addr} {T : Addr} {o : HO} {t' : Nat} {h' : Heap} (I : Inv X pins σ H s) (hf : ∀ b ∈ ch, FpOk X pins H b) (k : ∀ b u, b ∉ ch -> s.heap.get? b = some u -> h'.get? b = some u) (hT : s.heap.objs.size <= T)
    (new : ObjOk X.prog X.w (upd H T o) h' T o) : Inv X pins σ (upd H T o) { s with heap := h', toks := t' } := by
  have nch : ∀ b u, H b = some u -> b ∉ ch := fun b u e z => by have := (hf b z).1; rw [this] at e; cases e
  have nT : H T = none := I.hok.fresh hT
  have neT : ∀ b u, s.heap.get? b = some u -> b ≠ T := fun b u e => Nat.ne_of_lt (Nat.lt_of_lt_of_le (Heap.lt_size e) hT)
  refine I.step (g' := s.gens) (d' := s.drawn) (ch := ch) (fun b hb => ⟨(hf b hb).2.2.2.1, (hf b hb).2.1, (hf b hb).2.2.2.2.1, (hf b hb).2.2.2.2.2⟩) (fun b o _ _ hc e _ => k b o hc e) (fun b o _ _ hc e _ => ⟨o.slots, k b o hc e⟩) (fun b u _ e n => by rw [upd_ne (neT b u e)]; exact n)
    (fun b o hc e => ⟨o, k b o hc e⟩) (fun b xs e => by rw [upd_ne (ne_of_none e nT)]; exact e) (fun b o u e => by rw [upd_ne (ne_of_none e nT)]; exact e) (fun b ps e => ⟨#[], by rw [upd_ne (ne_of_none e nT), e]; simp⟩) (fun m hm => ?_) (fun b u e => ?_) I.bare
  · obtain ⟨o, es, ep, ho, r⟩ := hm
    exact ⟨o, es, ep, k _ o (fun z => (hf _ z).2.1 rfl) ho, r⟩
  · by_cases hb : b = T
    · subst hb
      rw [upd_same] at e
      cases e
      exact new
    · rw [upd_ne hb] at e
      refine (I.hok b u e).stay (fun c v hc q => k c v ?_ q) (fun c r => by rw [upd_ne (ne_of_none r nT)]; exact r) fun c xs r => by rw [upd_ne (ne_of_none r nT)]; exact r
      rcases hc with z | z
      · rw [z]; exact nch b u e
      · exact nch c _ z
end
inductive Kd | l | t
def ItAt (k : Kd) (h : Heap) (it a : Addr) (i : Nat) : Prop := match k with | .l => h.IsListIter it a i | .t => h.IsTupleIter it a i
def SqK (k : Kd) (K : PySem.W.Frag) (H : Hp) (a : Addr) (xs : List V) : Prop := match k with | .l => SqL K H a xs | .t => SqT K H a xs
section
variable {prog : Program} {w : World} {A : Around} {E : Value -> Shared -> Prop} {s : Shared}
end
open AutoSeq1 (wpAny_loadPart')
section
variable {prog : Program} {w : World} {A : Around} {E : Value -> Shared -> Prop} {s : Shared}
end
open AutoSeq1 (wpAny_loadPart')
section
variable {prog : Program} {w : World} {A : Around} {E : Value -> Shared -> Prop} {s : Shared}
end
def Itc (lo c : Int) (n : Nat) : It := ⟨fun i _ => i < n, fun i H x H' => H' = H /\ x = .int (lo + i * c), fun i _ => n <= i⟩
theorem turn_rangeC {P : Program} {w : World} {K : PySem.W.Frag} {tg : Expr} (it : Addr) (lo c : Int) (n : Nat) : Turn P w K tg (Itc lo c n) [it] it (fun i h => IsRangeIter h it (lo + (i : Nat) * c) ((n : Int) - (i : Nat)) c) where
  mem := by simp
  obj := fun i h st b hb => by
    rw [List.mem_singleton.mp hb]
    exact ⟨_, st, fun v z => by cases z⟩
  keep := fun i h h' st k => k it (by simp) _ st
  item := by
    intro X hP hw hK hc i pins s σ H E I hf st hg
    subst hP hw hK
    have W := Walks.range (prog := X.prog) (w := X.w) (I.ok.hd hc) it lo c n
    refine W.item i s _ _ hg st fun v h' tk hv st' kk => ?_
    obtain ⟨t, rfl⟩ := hv
    have I1 : Inv X pins σ H { s with heap := h', toks := tk } := I.turnM hf kk
    exact ⟨_, rfl, go_of (s := { s with heap := h', toks := tk }) (n := "range_iterator") st' rfl rfl (by decide) ⟨.int _, H, I1, ⟨t, rfl⟩, ⟨rfl, rfl⟩, st', fun b hb => (hf b hb).1⟩⟩
  done := by
    intro X hP hw hK hc i pins s σ H E I hf st hg
    subst hP hw hK
    exact wpAny_pyNext_range_end (I.ok.hd hc) st (by have : n <= i := hg; omega) fun h' eb => ⟨rfl, I.turnM (t' := s.toks) hf fun b o hb e => eb b o (by simpa using hb) e⟩
  self := fun _ _ _ _ _ st h => wpAny_pyIter_rangeiter st h
structure Src (K : PySem.W.Frag) (mg : Str -> Option Value) (x : Str) (st : Stmt) (ps : List Str) : Prop where
  ex : ∃ f fd, Fun K x x st f fd /\ Binds K fd ps [] /\ mg x = some (.ref f)
structure Def (P : Program) (w : World) (K : PySem.W.Frag) (mg : Str -> Option Value) (base : Heap) (k : Nat) (x : Str) (ps : List Str) (sp : Sp) : Prop where
  ex : ∃ f fd, FnOk P w K mg base CX0 k f fd ps sp /\ Binds K fd ps [] /\ mg x = some (.ref f) /\ PySem.W.keepIn K (.ref f) = true
theorem Src.def {P : Program} {w : World} {K : PySem.W.Frag} {mg : Str -> Option Value} {base : Heap} {k : Nat} {x : Str} {st : Stmt} {N ps : List Str} {sp : Sp} (S : Src K mg x st ps) (sc : FnScope N ps (defScope st)) (len : ∀ vs H Q E, sp vs H Q E -> vs.length = ps.length)
    (hbody : ∀ (f : Addr) (cdv : Value) (A : Around) (outer : List Env) (s : Shared) (H : Hp) (vs : List V) (Q : VK) (E : XK), Room k (A.deeper (envOfC x (defScope st) s.heap.objs.size f cdv)) -> sp vs H Q E ->
      ∃ t, PSs (cxOf CX0 P w K mg base N x (defScope st) f cdv A outer s H E).nox (defBody st) t /\ t { nx := fun _ H' => Q .non H', rt := Q } (start N vs) H) : Def P w K mg base (k + 1) x ps sp := by
  obtain ⟨f, fd, F, b, m⟩ := S.ex
  exact ⟨f, fd, F.ok sc len (hbody f), b, m, F.kp⟩
theorem pe_def {X : Cx} {k : Nat} {x : Str} {ps : List Str} {sp : Sp} {e : Expr} {es : List Expr} {t : TA} {p pos : Pos} (D : Def X.prog X.w X.K X.mg X.base k x ps sp) (hr : Room k X.A) (hg : Gl X x) (ha : PA X (e :: es) t)
    (hdb : (x == ("__debug__" : Str)) = false := by decide) (he : starEach (e :: es) X.env = (false, eval e X.env) :: starEach es X.env := by rfl) (hpl : (backTo pos (starEach es X.env)).any (·.1) = false := by rfl) :
    PE X (.Call (.Name x p) (e :: es) [] pos) (tCall sp [] E0 t) := by
  obtain ⟨f, fd, F, b, m, kp⟩ := D.ex
  exact pe_call F hr hg m kp b .nil pass0 ha hdb he hpl
theorem Same.tup {K : PySem.W.Frag} {H H' : Hp} {a : Addr} {xs : List V} (e : Same H H') (h : SqT K H a xs) : SqT K H' a xs := by
  rcases h with (h | ⟨o, h⟩) | h
  · exact .inl (.inl (e _ _ h))
  · exact .inl (.inr ⟨o, e _ _ h⟩)
  · exact .inr h
theorem Same.seqK {K : PySem.W.Frag} {H H' : Hp} {k : Kd} {a : Addr} {xs : List V} (e : Same H H') (h : SqK k K H a xs) : SqK k K H' a xs := by
  cases k with
  | l => exact e.seq h
  | t => exact e.tup h
theorem Same.new {H : Hp} {p : Addr} {o : HO} (h : H p = none) : Same H (upd H p o) := fun b u e => by rw [upd_ne (ne_of_none e h)]; exact e
theorem Paired.at {α β : Type} {F : α -> β -> Prop} : ∀ {l₁ : List α} {l₂ : List β}, Paired F l₁ l₂ -> ∀ {i : Nat} {a : α}, l₁[i]? = some a -> ∃ b, l₂[i]? = some b /\ F a b
  | _, _, .nil, i, a, e => by simp at e
  | _, _, .cons r t, 0, a, e => by simp at e; subst e; exact ⟨_, rfl, r⟩
  | _, _, .cons r t, i + 1, a, e => by
    obtain ⟨b, h1, h2⟩ := Paired.at t (i := i) (by simpa using e)
    exact ⟨b, by simpa using h1, h2⟩
theorem Paired.snoc {α β : Type} {F : α -> β -> Prop} : ∀ {l₁ : List α} {l₂ : List β}, Paired F l₁ l₂ -> ∀ {a : α} {b : β}, F a b -> Paired F (l₁ ++ [a]) (l₂ ++ [b])
  | _, _, .nil, _, _, h => .cons h .nil
  | _, _, .cons r t, _, _, h => .cons r (Paired.snoc t h)
theorem take_succ_of {α : Type} {l : List α} {i : Nat} {a : α} (h : l[i]? = some a) : l.take (i + 1) = l.take i ++ [a] := by
  rw [List.take_add_one, h]; rfl
def ItK (k : Kd) (K : PySem.W.Frag) (a : Addr) : It := match k with | .l => Itl K a | .t => Itt K a
def iSeq (k : Kd) (K : PySem.W.Frag) (tl : TE) : TI := fun σ H R => tl σ H fun x H1 => ∃ a, x = .ref a /\ (∃ xs, SqK k K H1 a xs) /\ R (ItK k K a) H1
theorem pi_seq {X : Cx} {tg : Expr} (k : Kd) {l : Expr} {tl : TE} (hl : PE X l tl) : PI X tg l (iSeq k X.K tl) := by
  cases k with
  | l => exact pi_list hl
  | t => exact pi_tup hl
theorem itk_go {k : Kd} {K : PySem.W.Frag} {H : Hp} {a : Addr} {xs : List V} {i : Nat} (h : SqK k K H a xs) (hi : i < xs.length) : (ItK k K a).go i H := by
  cases k with
  | l => exact ⟨xs, xs[i], h, by simp [hi]⟩
  | t => exact ⟨xs, xs[i], h, by simp [hi]⟩
theorem itk_stop {k : Kd} {K : PySem.W.Frag} {H : Hp} {a : Addr} {xs : List V} {i : Nat} (h : SqK k K H a xs) (hi : xs.length <= i) : (ItK k K a).stop i H := by
  cases k with
  | l => exact ⟨xs, h, hi⟩
  | t => exact ⟨xs, h, hi⟩
theorem itk_yld {k : Kd} {K : PySem.W.Frag} {H H' : Hp} {a : Addr} {xs : List V} {i : Nat} {x : V} (h : SqK k K H a xs) (y : (ItK k K a).yld i H x H') : H' = H /\ xs[i]? = some x := by
  cases k with
  | l => exact ⟨y.1, y.2 xs h⟩
  | t => exact ⟨y.1, y.2 xs h⟩
theorem comp_seq {k : Kd} {K : PySem.W.Frag} {a : Addr} {xs : List V} {g : TG} {tt : TT} {te : TE} {fin : List V -> Hp -> Prop} {σ : St} {H : Hp} (S : St -> Prop) (Pv : Nat -> List V -> Hp -> Prop) (hσ : S σ) (h0 : Pv 0 [] H) (hz : xs.length < sizeLine)
    (hl : ∀ i ys H, i <= xs.length -> Pv i ys H -> SqK k K H a xs)
    (hs : ∀ (i : Nat) (x : V) (ys : List V) (σ : St) (H : Hp) (N : List V -> St -> Hp -> Prop), xs[i]? = some x -> S σ -> Pv i ys H -> (∀ ys' σ' H', S σ' -> Pv (i + 1) ys' H' -> ys'.length <= ys.length + 1 -> N ys' σ' H') ->
      g x σ H fun σ2 H2 => tt σ2 H2 fun b H3 => if b = true then te σ2 H3 fun y H4 => N (ys ++ [y]) σ2 H4 else N ys σ2 H3)
    (hd : ∀ ys H, Pv xs.length ys H -> fin ys H) : ∃ W, CompW (ItK k K a) g tt te fin W /\ ∃ m, W 0 m [] σ H := by
  refine ⟨fun i m ys σ H => m = xs.length - i /\ i <= xs.length /\ ys.length <= i /\ S σ /\ Pv i ys H, ?_, xs.length, by simp, Nat.zero_le _, Nat.le_refl _, hσ, h0⟩
  rintro i m ys σ H ⟨rfl, hi, hy, hS, p⟩
  have q := hl i ys H hi p
  by_cases hlt : i < xs.length
  · refine .inr ⟨itk_go q hlt, by lia, fun x H' y => ?_⟩
    obtain ⟨e, hy2⟩ := itk_yld q y
    subst e
    have := hs i x ys σ H' (fun ys' σ' H'' => ∃ m', m' < xs.length - i /\ m' = xs.length - (i + 1) /\ i + 1 <= xs.length /\ ys'.length <= i + 1 /\ S σ' /\ Pv (i + 1) ys' H'') hy2 hS p (fun ys' σ' H'' a b c => ⟨_, by lia, rfl, hlt, by lia, a, b⟩)
    exact this
  · have e : i = xs.length := by lia
    subst e
    exact .inl ⟨itk_stop q (Nat.le_refl _), by lia, hd ys H p⟩
theorem for_rangeC {lo c : Int} {n : Nat} {g : TG} {tb : TS} {D : Ends} {σ : St} {H : Hp} (Pv : Nat -> St -> Hp -> Prop) (h0 : Pv 0 σ H)
    (hs : ∀ (i : Nat) σ H, i < n -> Pv i σ H -> g (.int (lo + i * c)) σ H fun σ2 H2 => tb { D with nx := Pv (i + 1), ct := Pv (i + 1), bk := D.nx } σ2 H2) (hd : ∀ σ H, Pv n σ H -> D.nx σ H) :
    ∃ W : Nat -> Nat -> St -> Hp -> Prop, (∃ m, W 0 m σ H) /\ ∀ i m σ H, W i m σ H ->
      ((Itc lo c n).stop i H /\ D.nx σ H) \/ ((Itc lo c n).go i H /\ ∃ N : St -> Hp -> Prop, (∀ σ' H', N σ' H' -> ∃ m', m' < m /\ W (i + 1) m' σ' H') /\ ∀ x H', (Itc lo c n).yld i H x H' -> g x σ H' fun σ2 H2 => tb { D with nx := N, ct := N, bk := D.nx } σ2 H2) := by
  refine ⟨fun i m σ H => m = n - i /\ i <= n /\ Pv i σ H, ⟨n, by simp, Nat.zero_le _, h0⟩, ?_⟩
  rintro i m σ H ⟨rfl, hi, p⟩
  by_cases hlt : i < n
  · refine .inr ⟨hlt, Pv (i + 1), fun σ' H' p' => ⟨n - (i + 1), by lia, rfl, hlt, p'⟩, fun x H' y => ?_⟩
    obtain ⟨e, y⟩ := y
    subst e y
    exact hs i σ _ hlt p
  · have e : i = n := by lia
    subst e
    exact .inl ⟨Nat.le_refl _, hd σ H p⟩
theorem units66 {A : Around} {k : Nat} (hr : Room k A) : A.units + 66 < cLine := by have := hr.un; lia
def compB (kinds : List (Str × NameKind)) (N : List Str) (scope : Scope) (N' : List Str) (fr : List (Option Nat)) : Bool :=
  (scope.kind == .function) && (scope.names.all fun y => y.2 != .cell) && (scope.names.all fun y => y.2 != .local || scope.names.lookup y.1 == some .local) &&
  (scope.names.all fun y => y.2 != .free || (kinds.lookup y.1 == some .cell || kinds.lookup y.1 == some .free)) && frOk N kinds scope.names N' fr
theorem compOk_of {X : Cx} {scope : Scope} {N' : List Str} {fr : List (Option Nat)} (h : compB X.env.scope.names X.N scope N' fr = true) : CompOk X scope N' fr := by
  unfold compB at h
  simp only [Bool.and_eq_true, List.all_eq_true] at h
  obtain ⟨⟨⟨⟨h1, h2⟩, h3⟩, h4⟩, h5⟩ := h
  refine ⟨by simpa using h1, fun y hy => by simpa using h2 y hy, fun y hy e => ?_, fun y hy e => ?_, h5⟩
  · have := h3 y hy
    rw [e] at this
    simpa using this
  · have := h4 y hy
    rw [e] at this
    simpa [Env.kindOf] using this
theorem yesT {σ : St} {H : Hp} {A B : Hp -> Prop} (h : A H) : tYes σ H fun b H3 => if b = true then A H3 else B H3 := by
  show if true = true then A H else B H
  exact iteT h
section
open PySem.SeqAt
open PySem.AutoSeq1 (wpAny_loadPart')
open PySem.MeetsSeq PySem.MeetsSeq2 PySem.MeetsSeq3
end
section
variable {X : Cx}
def rCat0 (K : PySem.W.Frag) : R2 := fun x y H Q => ∃ a b ys, x = .ref a /\ y = .ref b /\ SqT K H a [] /\ SqT K H b ys /\ Q (.ref b) H
theorem op_cat0 : OpR X (binaryOp .Add) (rCat0 X.K) := by
  intro pins s σ H x y v u Q I rx ry h
  obtain ⟨a, b, ys, rfl, rfl, ha, hb, k⟩ := h
  cases (show v = Value.ref a from rx)
  cases (show u = Value.ref b from ry)
  obtain ⟨its, r1, t1, _⟩ := I.tuple ha
  obtain ⟨its2, r2, t2, _⟩ := I.tuple hb
  rw [Vals.zero r1] at t1
  obtain ⟨⟨cls, dd, data, sl⟩, ho, hc, n, hd⟩ := id t1
  obtain ⟨⟨cls2, dd2, data2, sl2⟩, ho2, hc2, n2, hd2⟩ := id t2
  simp only at hc hd hc2 hd2
  subst hc hd hc2 hd2
  exact concat_meets ⟨_, ho, rfl⟩ ⟨_, ho2, rfl⟩ noFill_tuple_add seq_tuple_add PySem.F.slot_tuple_add PySem.F.entry_tuple_add (PySem.F.args_tuple_add_2 _ _) (tuple_addW0 a b _ its2.toArray n n2 dd dd2 sl sl2 (by simp)) ⟨ho, ho2, ⟨.ref b, H, I, rfl, k⟩⟩
end
section
variable {X : Cx}
end
def CXr (P : Program) (w : World) : CXT := fun outer H s E e s' => ∃ (ea C : Addr) (a0 : Value) (B : Heap) (H' : Hp), e = .ref ea /\ s'.os = s.os /\ AllBare s'.gens /\ Un (frs outer) [] H H' s.heap s'.heap /\ HOk P w H' s'.heap /\
  Heap.FlyingW B outer ea (.ref C) a0 s'.heap /\ (∀ b o, s'.heap.get? b = some o -> ((∃ q, s.heap.get? b = some q) \/ ∃ q, H' b = some q) -> b ∉ frs outer -> B.get? b = some o) /\ E (.ref C) none H'
section
variable {P : Program} {w : World} {K : PySem.W.Frag} {mg : Str -> Option Value} {base : Heap} {N : List Str} {qual : Str} {scope : Scope} {f : Addr} {cd : Value} {A : Around} {outer : List Env} {s0 : Shared} {H0 : Hp} {E : XK}
end
section
variable {P : Program} {w : World} {K : PySem.W.Frag} {mg : Str -> Option Value} {base : Heap} {N : List Str} {qual : Str} {scope : Scope} {f : Addr} {cd : Value} {A : Around} {outer : List Env} {s0 : Shared} {H0 : Hp} {E : XK}
end
end L2
namespace L2
open PySem PySem.Spec PyProof.Rows PySem.W
section
variable {K : Frag} {prog : Program} {w : World} {A : Around} {E : Value -> Shared -> Prop} {h : Heap} {g : Array GenState} {d : Drawn} {t : Nat} {os : OsState} {a C : Addr} {o : Obj}
end
section
variable {X : Cx}
end
end L2
namespace L2
open PySem PySem.Spec PyProof.Rows PySem.W
section
variable {X : Cx} {pins : List (Addr × Obj)} {σ : St} {H H' : Hp} {s s' : Shared}
end
section
variable {X : Cx} {pins : List (Addr × Obj)} {σ : St} {H H' : Hp} {s s' : Shared} {v : Value}
end
end L2
namespace L2
open PySem PySem.Spec PyProof.Rows
open PySem.AutoSeq1 (wpAny_loadPart')
section
variable {prog : Program} {w : World} {A : Around} {E : Value -> Shared -> Prop} {s : Shared}
end
section
variable {X : Cx}
end
theorem vals_of_ints {us : List Value} {ns : List Int} (h : IntsAre us ns) : Vals (ns.map V.int) us := by
  induction h with
  | nil => exact .nil
  | cons n t _ ih => exact .cons ⟨t, rfl⟩ ih
section
variable {X : Cx}
def rSortedI (K : PySem.W.Frag) : List V -> Hp -> VK -> Prop := fun xs H Q => ∃ (p : Addr) (ns : List Int), xs = [.ref p] /\ SqL K H p (ns.map V.int) /\ ns.length < 64 /\ ∀ (l : Addr) (ms : List Int), ms.Perm ns -> ms.Pairwise (· <= ·) -> H l = none -> Q (.ref l) (upd H l (.lst (ms.map V.int)))
theorem call_sortedI : CallR X (.builtin "sorted") (rSortedI X.K) := by
  intro pins s σ H xs us Q I r h
  obtain ⟨p, ns, rfl, hp, hn, q⟩ := h
  obtain ⟨u, rfl, ru⟩ := Vals.one r
  cases (show u = Value.ref p from ru)
  obtain ⟨its, r1, t1, _⟩ := I.list hp
  have hl : its.length = ns.length := by have := r1.length; rw [List.length_map] at this; lia
  refine sorted_ints t1.isList (intsAre_of r1) (by lia) fun out ms a1 a2 a3 => ?_
  obtain ⟨e, he⟩ := sortedAll_at s.heap its out
  have fr : s.heap.objs.size <= s.heap.objs.size + 1 := Nat.le_succ _
  refine ⟨.ref (s.heap.objs.size + 1), upd H (s.heap.objs.size + 1) (.lst (ms.map V.int)), I.laid (t' := s.toks) (fun b o z => sortedAll_old z) fr ?_, rfl, q _ ms a2 a3 (I.hok.fresh fr)⟩
  refine ⟨?_, out.toList, e, vals_of_ints a1, by rw [he]⟩
  rw [List.length_map, a2.length_eq]
  exact Nat.le_trans (Nat.le_of_lt hn) (by decide)
end
end L2
namespace L2
open PySem PySem.Spec PyProof.Rows PySem.W
def XP (X : Cx) (pins : List (Addr × Obj)) (DX : St -> XK) (e : Value) (s' : Shared) : Prop := ∃ σ H s, Inv X pins σ H s /\ CXr X.prog X.w X.stack H s (DX σ) e s'
section
variable {X : Cx}
end
end L2
namespace L2
open PySem PySem.Spec PyProof.Rows
section
variable {X : Cx}
def rCatA (K : PySem.W.Frag) : R2 := fun x y H Q => ∃ a b xs ys, x = .ref a /\ y = .ref b /\ H a = some (.tup xs) /\ H b = some (.tup ys) /\ xs.length + ys.length <= sizeLine /\ ∀ p H', Same H H' -> H' p = some (.tup (xs ++ ys)) -> Q (.ref p) H'
theorem op_catA : OpR X (binaryOp .Add) (rCatA X.K) := by
  intro pins s σ H x y v u Q I rx ry h
  obtain ⟨a, b, xs, ys, rfl, rfl, ha, hb, hz, q⟩ := h
  by_cases hx : xs = []
  · subst hx
    exact op_cat0 pins s σ H _ _ v u Q I rx ry ⟨a, b, ys, rfl, rfl, SqT.of ha, SqT.of hb, q b H (Same.refl H) hb⟩
  · refine op_catT pins s σ H _ _ v u Q I rx ry ⟨a, b, xs, ys, rfl, rfl, SqT.of ha, SqT.of hb, hx, hz, fun hy => ?_, fun hy p hp => q p _ (Same.new hp) upd_same⟩
    subst hy
    exact q a H (Same.refl H) (by rw [List.append_nil]; exact ha)
end
section
variable {κ : Type} [DecidableEq κ]
def valV (kvs : List (κ × V)) (k : κ) : Option V := (kvs.find? fun kv => decide (kv.1 = k)).map (·.2)
def putK (kvs : List (κ × V)) (k : κ) (v : V) : List (κ × V) :=
  if (kvs.any fun kv => decide (kv.1 = k)) = true then kvs.map (fun kv => if kv.1 = k then (kv.1, v) else kv) else kvs ++ [(k, v)]
theorem valV_pos {p : κ × V} {r : List (κ × V)} {k : κ} (e : p.1 = k) : valV (p :: r) k = some p.2 := by simp [valV, List.find?_cons, e]
theorem valV_neg {p : κ × V} {r : List (κ × V)} {k : κ} (e : ¬ p.1 = k) : valV (p :: r) k = valV r k := by simp [valV, List.find?_cons, e]
theorem valV_any (k : κ) : ∀ kvs : List (κ × V), (kvs.any fun kv => decide (kv.1 = k)) = (valV kvs k).isSome
  | [] => rfl
  | p :: r => by
    rw [List.any_cons]
    by_cases e : p.1 = k
    · simp only [valV_pos e, decide_eq_true e, Bool.true_or, Option.isSome_some]
    · rw [valV_neg e, decide_eq_false e, Bool.false_or]; exact valV_any k r
theorem length_putK (kvs : List (κ × V)) (k : κ) (v : V) : (putK kvs k v).length <= kvs.length + 1 := by
  unfold putK
  split
  · rw [List.length_map]; lia
  · rw [List.length_append, List.length_cons, List.length_nil]; lia
theorem RelO.isSome_eq {o : Option V} {u : Option Value} (r : RelO o u) : o.isSome = u.isSome := by
  cases o with
  | none => cases u with
    | none => rfl
    | some _ => exact (show False from r).elim
  | some _ => cases u with
    | none => exact (show False from r).elim
    | some _ => rfl
theorem RelO.getD {o : Option V} {u : Option Value} {d : V} {d' : Value} (r : RelO o u) (rd : RelV d d') : RelV (o.getD d) (u.getD d') := by
  cases o with
  | none => cases u with
    | none => exact rd
    | some _ => exact (show False from r).elim
  | some _ => cases u with
    | none => exact (show False from r).elim
    | some _ => exact r
theorem KV.val {kvs : List (κ × V)} {vs : List (κ × Value)} (r : KV kvs vs) (k : κ) : RelO (valV kvs k) (valueAt vs k) := by
  unfold KV at r
  induction r with
  | nil => exact True.intro
  | @cons p q ps qs h t ih =>
    obtain ⟨h1, h2⟩ := h
    by_cases e : p.1 = k
    · have e' : q.1 = k := h1.symm.trans e
      have b : valueAt (q :: qs) k = some q.2 := by simp [valueAt, List.find?_cons, e']
      rw [valV_pos e, b]; exact h2
    · have e' : ¬ q.1 = k := fun z => e (h1.trans z)
      have b : valueAt (q :: qs) k = valueAt qs k := by simp [valueAt, List.find?_cons, e']
      rw [valV_neg e, b]; exact ih
theorem KV.any {kvs : List (κ × V)} {vs : List (κ × Value)} (r : KV kvs vs) (k : κ) : (kvs.any fun kv => decide (kv.1 = k)) = vs.any fun kv => decide (kv.1 = k) := by
  unfold KV at r
  induction r with
  | nil => rfl
  | cons h t ih => rw [List.any_cons, List.any_cons, ih, h.1]
theorem KV.repl {kvs : List (κ × V)} {vs : List (κ × Value)} (r : KV kvs vs) (k : κ) {y : V} {u : Value} (ry : RelV y u) :
    KV (kvs.map fun kv => if kv.1 = k then (kv.1, y) else kv) (vs.map fun kv => if kv.1 = k then (kv.1, u) else kv) := by
  unfold KV at r ⊢
  induction r with
  | nil => exact .nil
  | @cons p q ps qs h t ih =>
    rw [List.map_cons, List.map_cons]
    refine .cons ?_ ih
    obtain ⟨h1, h2⟩ := h
    by_cases e : p.1 = k
    · rw [if_pos e, if_pos (h1.symm.trans e)]; exact ⟨h1, ry⟩
    · rw [if_neg e, if_neg (fun z => e (h1.trans z))]; exact ⟨h1, h2⟩
theorem KV.put {kvs : List (κ × V)} {vs : List (κ × Value)} (r : KV kvs vs) (k : κ) {y : V} {u : Value} (ry : RelV y u) : KV (putK kvs k y) (stored vs k u) := by
  unfold putK stored
  rw [r.any k]
  by_cases e : (vs.any fun kv => decide (kv.1 = k)) = true
  · rw [if_pos e, if_pos e]; exact r.repl k ry
  · rw [if_neg e, if_neg e]; exact Paired.snoc r ⟨rfl, ry⟩
theorem KV.length {kvs : List (κ × V)} {vs : List (κ × Value)} (r : KV kvs vs) : kvs.length = vs.length := Paired.length r
end
theorem kV_is {P : Program} {w : World} {k : Key} {u : Value} (r : RelV (kV k) u) : (mixKind P w).is k u = true := by
  cases k with
  | inl i => obtain ⟨t, e⟩ := (show ∃ t, u = Value.int i t from r); subst e; exact mixKind_int P w i t
  | inr x => obtain ⟨t, e⟩ := (show ∃ t, u = Value.str x t from r); subst e; exact mixKind_str P w x t
theorem items_are {P : Program} {w : World} : ∀ {ks : List Key} {us : List Value}, Vals (ks.map kV) us -> ItemsAre (mixKind P w) ks us
  | [], _, r => by rw [List.map_nil] at r; cases r; exact .nil
  | k :: ks, _, r => by
    rw [List.map_cons] at r
    cases r with
    | cons h t => exact .cons (kV_is h) (items_are t)
abbrev KT (H : Hp) : List (List Key × V) -> List (List Key × Addr × Value) -> Prop := Paired fun p q => p.1 = q.1 /\ H q.2.1 = some (.tup (p.1.map kV)) /\ RelV p.2 q.2.2
theorem KT.val {H : Hp} {kvs : List (List Key × V)} {xs : List (List Key × Addr × Value)} (r : KT H kvs xs) (k : List Key) : RelO (valV kvs k) ((atKey xs k).map (·.2)) := by
  induction r with
  | nil => exact True.intro
  | @cons p q ps qs h t ih =>
    obtain ⟨h1, _, h2⟩ := h
    by_cases e : p.1 = k
    · have e' : q.1 = k := h1.symm.trans e
      have b : atKey (q :: qs) k = some q.2 := by simp [atKey, List.find?_cons, e']
      rw [valV_pos e, b]; exact h2
    · have e' : ¬ q.1 = k := fun z => e (h1.trans z)
      have b : atKey (q :: qs) k = atKey qs k := by simp [atKey, List.find?_cons, e']
      rw [valV_neg e, b]; exact ih
theorem KT.repl {H : Hp} {kvs : List (List Key × V)} {xs : List (List Key × Addr × Value)} (r : KT H kvs xs) (k : List Key) {y : V} {u : Value} (ry : RelV y u) :
    KT H (kvs.map fun kv => if kv.1 = k then (kv.1, y) else kv) (xs.map (putAt k u)) := by
  induction r with
  | nil => exact .nil
  | @cons p q ps qs h t ih =>
    rw [List.map_cons, List.map_cons]
    refine .cons ?_ ih
    obtain ⟨h1, h2, h3⟩ := h
    unfold putAt
    by_cases e : p.1 = k
    · rw [if_pos e, if_pos (h1.symm.trans e)]; exact ⟨h1, h2, ry⟩
    · rw [if_neg e, if_neg (fun z => e (h1.trans z))]; exact ⟨h1, h2, h3⟩
theorem KT.put {H : Hp} {kvs : List (List Key × V)} {xs : List (List Key × Addr × Value)} (r : KT H kvs xs) (k : List Key) {b : Addr} {y : V} {u : Value} (hb : H b = some (.tup (k.map kV))) (ry : RelV y u) :
    KT H (putK kvs k y) (storedH xs k b u) := by
  have e : (kvs.any fun kv => decide (kv.1 = k)) = (atKey xs k).isSome := by
    rw [valV_any, (r.val k).isSome_eq, Option.isSome_map]
  unfold putK storedH
  rw [e]
  by_cases q : (atKey xs k).isSome = true
  · rw [if_pos q, if_pos q]; exact r.repl k ry
  · rw [if_neg q, if_neg q]; exact Paired.snoc r ⟨rfl, hb, ry⟩
theorem KT.keeps {H H' : Hp} {kvs : List (List Key × V)} {xs : List (List Key × Addr × Value)} (r : KT H kvs xs) (ht : ∀ b ys, H b = some (.tup ys) -> H' b = some (.tup ys)) : KT H' kvs xs :=
  Paired.mapP r fun _ _ z => ⟨z.1, ht _ _ z.2.1, z.2.2⟩
section
variable {P : Program} {w : World} {H : Hp} {h : Heap} {a : Addr}
theorem rd_of {u : HO} (ok : HOk P w H h) (e : Rd H a u) : ObjOk P w H h a u := e.ok ok
theorem dk_rd {kvs : List (Key × V)} (ok : HOk P w H h) (e : Rd H a (.dK kvs)) : kvs.length <= sizeLine /\ (a == sysModules) = false /\ ∃ vs, KV kvs vs /\ h.DictOf (mixKind P w) a vs :=
  show ObjOk P w H h a (.dK kvs) from rd_of ok e
theorem dk_of {kvs : List (Key × V)} (ok : HOk P w H h) (e : H a = some (.dK kvs)) : kvs.length <= sizeLine /\ (a == sysModules) = false /\ ∃ vs, KV kvs vs /\ h.DictOf (mixKind P w) a vs := dk_rd ok (.inl e)
theorem key_of {ks : List Key} (ok : HOk P w H h) (e : H a = some (.tup (ks.map kV))) : (tupleKind (mixKind P w)).is h ks a := by
  obtain ⟨_, its, r, o, h1, h2, n, h3⟩ := (show ObjOk P w H h a (.tup (ks.map kV)) from ok a _ e)
  exact ⟨o, its.toArray, n, h1, h2, h3, by simpa using items_are r⟩
theorem dt_rd {kvs : List (List Key × V)} (ok : HOk P w H h) (e : Rd H a (.dT kvs)) : kvs.length <= sizeLine /\ (a == sysModules) = false /\
    ∃ xs, KT H kvs xs /\ h.DictOfH (tupleKind (mixKind P w)) a xs := by
  obtain ⟨z, y, xs, r, o, es, ep, h1, h2, h3, h4, h5⟩ := (show ObjOk P w H h a (.dT kvs) from rd_of ok e)
  refine ⟨z, y, xs, r, o, es, ep, h1, h2, h3, h4, fun x hx => ?_, h5⟩
  have all : ∀ {l : List (List Key × V)} {m : List (List Key × Addr × Value)}, KT H l m -> ∀ x ∈ m, (tupleKind (mixKind P w)).is h x.1 x.2.1 := by
    intro l m q
    induction q with
    | nil => intro x hx; exact nomatch hx
    | @cons p q ps qs hq t ih =>
      intro x hx
      rcases List.mem_cons.mp hx with e | hx
      · subst e
        exact key_of ok (by rw [<- hq.1]; exact hq.2.1)
      · exact ih x hx
  exact all r x hx
theorem dt_of {kvs : List (List Key × V)} (ok : HOk P w H h) (e : H a = some (.dT kvs)) : kvs.length <= sizeLine /\ (a == sysModules) = false /\
    ∃ xs, KT H kvs xs /\ h.DictOfH (tupleKind (mixKind P w)) a xs := dt_rd ok (.inl e)
end
def DGet (H : Hp) (a : Addr) (y : V) (r : Option V) : Prop :=
  (∃ kvs k, Rd H a (.dK kvs) /\ y = kV k /\ r = valV kvs k) \/ ∃ kvs k b, Rd H a (.dT kvs) /\ y = .ref b /\ H b = some (.tup (k.map kV)) /\ r = valV kvs k
def DPut (H : Hp) (a : Addr) (y v : V) (H' : Hp) : Prop :=
  (∃ kvs k, H a = some (.dK kvs) /\ y = kV k /\ kvs.length < sizeLine /\ H' = upd H a (.dK (putK kvs k v))) \/
  ∃ kvs k b, H a = some (.dT kvs) /\ y = .ref b /\ H b = some (.tup (k.map kV)) /\ kvs.length < sizeLine /\ H' = upd H a (.dT (putK kvs k v))
theorem DGet.t {H : Hp} {a b : Addr} {kvs : List (List Key × V)} {k : List Key} (e : H a = some (.dT kvs)) (eb : H b = some (.tup (k.map kV))) : DGet H a (.ref b) (valV kvs k) := .inr ⟨kvs, k, b, .inl e, rfl, eb, rfl⟩
theorem DPut.t {H : Hp} {a b : Addr} {kvs : List (List Key × V)} {k : List Key} {v : V} (e : H a = some (.dT kvs)) (eb : H b = some (.tup (k.map kV))) (hl : kvs.length < sizeLine) :
    DPut H a (.ref b) v (upd H a (.dT (putK kvs k v))) := .inr ⟨kvs, k, b, e, rfl, eb, hl, rfl⟩
section
variable {X : Cx} {pins : List (Addr × Obj)} {σ : St} {H : Hp} {s : Shared} {a : Addr} {y v : V} {u r : Value} {o : Option V} {A : Around} {E : Value -> Shared -> Prop}
theorem Inv.big (I : Inv X pins σ H s) : sysModules < s.heap.objs.size := by
  have h : mainGlobals < s.heap.objs.size := (I.mod.glob.keeps I.bk).lt
  exact Nat.lt_trans (by decide) h
theorem d_write {h' : Heap} {t' : Nat} {ob : HO} (I : Inv X pins σ H s) (mu : Mut (H a)) (hs : Heap.SameBut a s.heap h') (he : ∃ q, h'.get? a = some q) (new : ObjOk X.prog X.w (upd H a ob) h' a ob) :
    Inv X pins σ (upd H a ob) { s with heap := h', toks := t' } :=
  I.write (x := a) (e := a) mu (.inl rfl) (fun b q hb z => (hs.2 b hb).trans z) he new
theorem dk_new {P : Program} {w : World} {H' : Hp} {h' : Heap} {kvs : List (Key × V)} {vs : List (Key × Value)} (z : kvs.length <= sizeLine) (hd : (a == sysModules) = false) (rel : KV kvs vs) (dd : h'.DictOf (mixKind P w) a vs) :
    ObjOk P w H' h' a (.dK kvs) := ⟨z, hd, vs, rel, dd⟩
theorem d_setItem {H' : Hp} {Q : Unit -> Shared -> Prop} (hu : A.units + 1 < cLine) (I : Inv X pins σ H s) (g : DPut H a y v H') (ry : RelV y u) (rv : RelV v r) (h : ∀ s', Inv X pins σ H' s' -> Q () s') :
    wpAny (model X.prog X.w) A (setItem (.ref a) u r) Q E s := by
  rcases g with ⟨kvs, k, e, ey, l, eH⟩ | ⟨kvs, k, b, e, ey, eb, l, eH⟩
  · subst ey eH
    obtain ⟨z, hd, vs, rel, dd⟩ := dk_of I.hok e
    have hz : vs.length <= sizeLine := by rw [<- rel.length]; exact z
    have hl : (putK kvs k v).length <= sizeLine := by have := length_putK kvs k v; lia
    refine wpAny_setItem_pairs (hsz := hz) (kV_is ry) dd fun h' dd' hs => h _ ?_
    have he : ∃ q, h'.get? a = some q := let ⟨q, _, _, hq, _⟩ := dd'; ⟨q, hq⟩
    exact d_write I (by rw [e]; exact True.intro) hs he (dk_new hl hd (rel.put k rv) dd')
  · subst ey eH
    cases (show u = Value.ref b from ry)
    obtain ⟨z, hd, xs, rel, dd⟩ := dt_of I.hok e
    have hz : xs.length <= sizeLine := by rw [<- Paired.length rel]; exact z
    have hl : (putK kvs k v).length <= sizeLine := by have := length_putK kvs k v; lia
    refine wpAny_setItem_heap (hsz := hz) (tupleKind_room_in1 hu) (key_of I.hok eb) dd fun h' dd' hs => h _ ?_
    obtain ⟨q, es, ep, hq, h2, h3, h4, _, h5⟩ := dd'
    refine d_write I (by rw [e]; exact True.intro) hs ⟨q, hq⟩ ⟨hl, hd, _, (rel.put k eb rv).keeps fun c ys ec => ?_, q, es, ep, hq, h2, h3, h4, h5⟩
    rw [upd_ne (ne_of ec e (fun z => nomatch z))]
    exact ec
end
section
variable {X : Cx} {pins : List (Addr × Obj)} {σ : St} {H : Hp} {s : Shared} {a : Addr} {kvs : List (Key × V)} {k : Key} {u : Value} {A : Around} {E : Value -> Shared -> Prop}
end
def sDPut (td ty tv : TE) : TS := fun D σ H => tv σ H fun v H1 => td σ H1 fun x H2 => ty σ H2 fun y H3 => ∃ a H4, x = .ref a /\ DPut H3 a y v H4 /\ D.nx σ H4
section
variable {X : Cx} {o i e value : Expr} {pos pos' tpos : Pos} {td ty tv : TE}
theorem ps_dput (hu : X.A.units + 1 < cLine) (ho : PE X o td) (hi : PE X i ty) (hv : PE X value tv) (hs : swapsWith value (some (.Subscript o i pos')) pos.line X.env = pure false) :
    PS X (.Assign [.Subscript o i pos'] value pos) (sDPut td ty tv) := by
  intro pins s σ H D I h
  refine wpAny_Assign_Subscript (thn (hv pins s σ H _ I h) fun r s1 ⟨v, H1, I1, rv, q1⟩ => thn (ho pins s1 σ H1 _ I1 q1) fun u s2 ⟨x, H2, I2, rx, q2⟩ => thn (hi pins s2 σ H2 _ I2 q2) fun iv s3 ⟨y, H3, I3, ry, a, H4, ex, g, q3⟩ => ?_) hs
  subst ex
  obtain rfl : u = Value.ref a := rx
  exact d_setItem hu I3 g ry rv fun s4 I4 => ⟨σ, H4, I4, q3⟩
end
theorem dt_empty {P : Program} {w : World} {H : Hp} (h : Heap) (hb : sysModules < h.objs.size) : ObjOk P w H (h.push { cls := .type "dict", data := .dict #[] }) h.objs.size (.dT []) :=
  ⟨Nat.zero_le _, beq_eq_false_iff_ne.mpr (Ne.symm (Nat.ne_of_lt hb)), [], .nil, _, #[], 0, Heap.get?_push_size _ rfl, ⟨rfl, rfl, rfl⟩, rfl, rfl, List.nodup_nil⟩
def tDNewT : TE := fun _ H Q => ∀ p, H p = none -> Q (.ref p) (upd H p (.dT []))
section
variable {X : Cx} {pos : Pos}
theorem pe_dnewT : PE X (.Dict [] [] pos) tDNewT := fun pins s σ H Q I h =>
  wpAny_Dict_empty ⟨.ref s.heap.objs.size, _, I.laid (a := s.heap.objs.size) (o := .dT []) (t' := s.toks) (fun _ _ q => Heap.get?_push_of_some _ q) (Nat.le_refl _) (dt_empty s.heap I.big), rfl, h _ (I.hok.fresh (Nat.le_refl _))⟩
end
structure M2 (X : Cx) (o : Expr) (m : Str) (apos : Pos) (e f : Expr) (cpos : Pos) : Prop where
  base : attributeBase o m X.env (eval o X.env) = eval o X.env
  few : ((backTo cpos (starEach [e, f] X.env)).all (fun x => !x.1) && (backToKw cpos (keywordEach [] X.env)).all (fun x => x.1.isSome)
    && decide (([e, f] : List Expr).length + ([] : List Keyword).length + (if ([] : List Keyword).isEmpty then 0 else 1) < 30)) = true
  line : (apos.endLine == cpos.line) = true
  trees : backTo cpos (starEach [e, f] X.env) = [(false, eval e X.env), (false, eval f X.env)]
def IsD (H : Hp) (a : Addr) : Prop := (∃ kvs, Rd H a (.dK kvs)) \/ ∃ kvs, Rd H a (.dT kvs)
theorem isD_at {X : Cx} {pins : List (Addr × Obj)} {σ : St} {H : Hp} {s : Shared} {a : Addr} (I : Inv X pins σ H s) (d : IsD H a) :
    s.TypeIs (.ref a) "dict" /\ (∀ b, Value.ref a = .ref b -> ∃ ob, s.heap.get? b = some ob /\ ob.dict = none) /\ (a == sysModules) = false := by
  rcases d with ⟨kvs, e⟩ | ⟨kvs, e⟩
  · obtain ⟨_, hd, vs, _, dd⟩ := dk_rd I.hok e
    refine ⟨dd.typeIs, fun b q => ?_, hd⟩
    cases q
    obtain ⟨ob, _, _, h1, h2, _⟩ := dd
    exact ⟨ob, h1, h2.2.1⟩
  · obtain ⟨_, hd, xs, _, dd⟩ := dt_rd I.hok e
    refine ⟨dd.typeIs, fun b q => ?_, hd⟩
    cases q
    obtain ⟨ob, _, _, h1, h2, _⟩ := dd
    exact ⟨ob, h1, h2.2.1⟩
section
variable {X : Cx} {pins : List (Addr × Obj)} {σ : St} {H : Hp} {s : Shared} {a : Addr} {y d : V} {u r : Value} {o : Option V} {A : Around} {E : Value -> Shared -> Prop}
theorem d_get2 {Q : Value -> Shared -> Prop} (hu : A.units + 1 < cLine) (I : Inv X pins σ H s) (g : DGet H a y o) (ry : RelV y u) (rd : RelV d r) (h : ∀ w' s', Inv X pins σ H s' -> RelV (o.getD d) w' -> Q w' s') :
    wpAny (model X.prog X.w) A (call (.builtin "dict.get") [.ref a, u, r]) Q E s := by
  rcases g with ⟨kvs, k, e, ey, l⟩ | ⟨kvs, k, b, e, ey, eb, l⟩
  · subst ey
    obtain ⟨z, hd, vs, rel, dd⟩ := dk_rd I.hok e
    refine call_meetsIn PySem.F.slot_dict_get dd.typeIs PySem.F.entry_dict_get (PySem.F.args_dict_get_3 _ _ _) (meets_dict_get_default (mixKind X.prog X.w) a (kV_is ry) hd r) ⟨_, dd.mapOf, h _ _ (I.tok _) ?_⟩
    rw [l]
    exact (rel.val k).getD rd
  · subst ey
    cases (show u = Value.ref b from ry)
    obtain ⟨z, hd, xs, rel, dd⟩ := dt_rd I.hok e
    refine call_meetsIn PySem.F.slot_dict_get dd.typeIs PySem.F.entry_dict_get (PySem.F.args_dict_get_3 _ _ _) (meetsH_dict_get_default (tupleKind (mixKind X.prog X.w)) a b hd r) ⟨tupleKind_room_in1 hu, k, xs, key_of I.hok eb, dd, h _ _ (I.tok _) ?_⟩
    rw [l]
    exact (rel.val k).getD rd
end
def tDGet2 (td ty tx : TE) : TE := fun σ H Q => td σ H fun x H1 => ∃ a, x = .ref a /\ IsD H1 a /\ ty σ H1 fun y H2 => tx σ H2 fun z H3 => ∃ o, DGet H3 a y o /\ Q (o.getD z) H3
section
variable {X : Cx} {o e f : Expr} {apos cpos : Pos} {td ty tx : TE}
theorem pe_dget2 (hu : X.A.units + 1 < cLine) (ho : PE X o td) (he : PE X e ty) (hf : PE X f tx) (m : M2 X o "get" apos e f cpos) : PE X (.Call (.Attribute o "get" apos) [e, f] [] cpos) (tDGet2 td ty tx) := by
  intro pins s σ H Q I h
  refine wpAny_Call_method m.base m.few m.line PySem.F.plainAttrs_dict PySem.F.slot_dict_get PySem.F.type_dict_get (thn (ho pins s σ H _ I h) fun u s1 ⟨x, H1, I1, rx, a, ex, d, q1⟩ => ?_)
  subst ex
  obtain rfl : u = Value.ref a := rx
  obtain ⟨t1, t2, _⟩ := isD_at I1 d
  refine ⟨t1, t2, ?_⟩
  rw [m.trees]
  refine Calls.callWith_builtin rfl (Calls.evalArgs_plain (Calls.spliced_cons (thn (he pins s1 σ H1 _ I1 q1) fun iv s2 ⟨y, H2, I2, ry, q2⟩ =>
    Calls.spliced_cons (thn (hf pins s2 σ H2 _ I2 q2) fun fv s3 ⟨z, H3, I3, rz, ov, g, q3⟩ => Calls.spliced_nil ?_))))
  exact d_get2 hu I3 g ry rz fun w' s4 I4 rw' => ⟨_, H3, I4, rw', q3⟩
end
section
variable {X : Cx} {pins : List (Addr × Obj)} {σ : St} {H : Hp} {s : Shared} {a : Addr} {kvs : List (Key × V)} {A : Around} {E : Value -> Shared -> Prop}
end
section
variable {X : Cx} {pins : List (Addr × Obj)} {σ : St} {H : Hp} {s : Shared} {a : Addr} {y : V} {u : Value} {A : Around} {E : Value -> Shared -> Prop}
end
section
variable {prog : Program} {w : World} {A : Around} {E : Value -> Shared -> Prop} {s : Shared} {it d v : Addr} {i ep : Nat} {es : Array DictEntry} {o : Obj}
theorem items_call {Q : Value -> Shared -> Prop} (hs : (d == sysModules) = false) (ho : s.heap.get? d = some o) (hx : o.ExactDict)
    (q : Q (.ref s.heap.objs.size) { s with heap := s.heap.push { cls := .type "dict_items", data := .fields #[.ref d] } }) : wpAny (model prog w) A (call (.builtin "dict.items") [.ref d]) Q E s := by
  have ty : s.TypeIs (.ref d) "dict" := ⟨o, ho, hx.1⟩
  refine wpAny_call_entry F.slot_dict_items ty F.entry_dict_items ?_ (F.args_dict_items_1 _)
  unfold Builtin.«dict.items»
  refine wpAny_bind ?_
  unfold Builtin.Dict.noArgs
  refine wpAny_bind (wpAny_notOrdered_dict ty ?_)
  show wpAny _ _ (pure d) _ _ s
  refine wpAny_pure ?_
  show wpAny _ _ (Builtin.Dict.showsAll d >>= _) _ _ s
  unfold Builtin.Dict.showsAll
  rw [if_neg (by rw [hs]; exact Bool.false_ne_true)]
  exact wpAny_bind (wpAny_pure (wpAny_bind (wpAny_newObj_type (wpAny_pure ⟨_, rfl, q⟩))))
theorem items_iter {Q : Value -> Shared -> Prop} (hv : s.heap.IsItemsView v d) (ho : s.heap.get? d = some o) (hd : o.data = .dict es ep)
    (q : Q (.ref s.heap.objs.size) { s with heap := s.heap.push { cls := .type "dict_itemiterator", data := .fields #[.none, .bool false, .ref d, .int 0 0, .int es.size 0, .int ep 0, .none, .none] } }) :
    wpAny (model prog w) A (pyIter (.ref v)) Q E s := by
  obtain ⟨ov, h1, h2, h3⟩ := id hv
  refine wpAny_pyIter_slot hv.typeIs F.slot_dict_items_iter (wpAny_call_entry F.slot_dict_items_iter hv.typeIs F.entry_dict_items_iter ?_ (F.args_dict_items_iter_1 _))
  unfold Builtin.«dict_items.__iter__»
  refine wpAny_bind (wpAny_pure (wpAny_bind ?_))
  unfold Builtin.Dict_items.dictOf
  refine wpAny_bind (wpAny_field h1 h3 (x := .ref d) rfl (wpAny_pure (wpAny_bind ?_)))
  unfold Builtin.Dict_items.newIterator
  refine wpAny_bind (wpAny_dictEntries ho hd (wpAny_bind (wpAny_dictEpoch ho hd ?_)))
  simp only [show Builtin.Dict_items.ownsTuple "dict_itemiterator" = true from by decide, if_true]
  refine wpAny_newObj_type (wpAny_pure ⟨_, rfl, "dict_itemiterator", _, ⟨_, Heap.get?_push_size _ rfl, rfl⟩, F.slot_dict_itemiterator_next.lookup, ?_⟩) (by simp only [sizeOk, Builtin.Dict_items.ownedTupleFields, List.size_toArray, List.length_append, List.length_cons, List.length_nil, sizeLine_eq]; lia)
  simpa [rawInt, Builtin.Dict_items.ownedTupleFields] using q
theorem items_next {e : DictEntry} {ok ov : Value} {Q : Option Value -> Shared -> Prop} (hit : IsItemIter s.heap it d i es.size ep ok ov) (ho : s.heap.get? d = some o) (hd : o.data = .dict es ep) (hx : es[i]? = some e)
    (q : ∀ h', IsItemIterOut h' it d (i + 1) es.size ep e.key e.val s.heap.objs.size -> h'.get? s.heap.objs.size = some { cls := .type "tuple", data := .seq #[e.key, e.val] } ->
      (∀ b o, b ≠ it -> s.heap.get? b = some o -> h'.get? b = some o) -> Q (some (.ref s.heap.objs.size)) { s with heap := h' }) : wpAny (model prog w) A (pyNext (.ref it)) Q E s := by
  obtain ⟨hp, g, dr, tk, os⟩ := s
  have ty : Shared.TypeIs ⟨hp, g, dr, tk, os⟩ (.ref it) "dict_itemiterator" := ⟨_, hit, rfl⟩
  unfold pyNext
  refine wpAny_bind (wpAny_attempt (wpAny_callSpecial?_slot (name := Str.ofString "__next__") ty F.slot_dict_itemiterator_next (wpAny_call_entry F.slot_dict_itemiterator_next ty F.entry_dict_itemiterator_next ?_ (F.args_dict_itemiterator_next_1 _))))
  refine wpAny_bind (wpAny_pure (wpAny_bind (wpAny_bind (wpAny_bind (wpAny_typeNameOfWhole_itemiter ty (wpAny_pure (wpAny_bind (wpAny_fieldsOf hit rfl ?_))))))))
  simp only [show Builtin.Dict_items.ownsTuple "dict_itemiterator" = true from by decide, if_true]
  show wpAny _ _ (if (Value.ref d == Value.none) = true then _ else _) _ _ _
  rw [if_neg (show ¬ (Value.ref d == Value.none) = true from Bool.false_ne_true)]
  refine wpAny_bind (wpAny_pure (wpAny_bind (wpAny_dictEntries ho hd ?_)))
  rw [if_neg (by simp)]
  refine wpAny_bind (wpAny_pure (wpAny_bind (wpAny_dictEpoch ho hd ?_)))
  rw [if_neg (by simp)]
  refine wpAny_pure ?_
  simp only [show ¬ ((i : Int) < 0) from by lia, if_false, Int.toNat_natCast, hx]
  refine wpAny_bind (wpAny_bind (wpAny_typeNameOfWhole_itemiter ty (wpAny_pure (wpAny_bind (wpAny_isOneOf_itemiter ty ?_)))))
  show wpAny _ _ (setField (.ref it) 3 (rawInt ((i : Int) + 1)) >>= _) _ _ ⟨hp, g, dr, tk, os⟩
  refine wpAny_bind (wpAny_setField_rec hit (by simp) fun g1 e1 b1 => ?_)
  replace b1 : Heap.SameBut it hp g1 := b1
  replace e1 : IsItemIter g1 it d (i + 1) es.size ep ok ov := by
    unfold IsItemIter
    rw [show ((i + 1 : Nat) : Int) = (i : Int) + 1 by lia]
    simpa [rawInt] using e1
  have ty1 : Shared.TypeIs ⟨g1, g, dr, tk, os⟩ (.ref it) "dict_itemiterator" := ⟨_, e1, rfl⟩
  refine wpAny_bind (wpAny_holding (wpAny_bind (wpAny_isOneOf_itemiter ty1 (wpAny_bind (wpAny_isOneOf_itemiter ty1 ?_)))))
  show wpAny _ _ (Builtin.Dict_items.pairFromOwner (.ref it) 6 e.key e.val) _ _ ⟨g1, g, dr, tk, os⟩
  unfold Builtin.Dict_items.pairFromOwner
  refine wpAny_bind (wpAny_newTuple ?_)
  have e2 : IsItemIter (g1.push { cls := .type "tuple", data := .seq #[e.key, e.val] }) it d (i + 1) es.size ep ok ov := Heap.get?_push_of_some _ e1
  have z1 : g1.objs.size = hp.objs.size := b1.1
  have il : it < hp.objs.size := Heap.lt_size hit
  have t2 : (g1.push { cls := .type "tuple", data := .seq #[e.key, e.val] }).get? hp.objs.size = some { cls := .type "tuple", data := .seq #[e.key, e.val] } := by rw [<- z1]; exact Heap.get?_push_size _ rfl
  have k2 : ∀ b o, b ≠ it -> hp.get? b = some o -> (g1.push { cls := .type "tuple", data := .seq #[e.key, e.val] }).get? b = some o := fun b o hb z => Heap.get?_push_of_some _ (b1.extBut b o hb z)
  show wpAny _ _ (Builtin.Dict_items.ownedTupleIsFree (.ref it) >>= _) _ _ ⟨g1.push { cls := .type "tuple", data := .seq #[e.key, e.val] }, g, dr, tk, os⟩
  rw [z1]
  generalize g1.push { cls := .type "tuple", data := .seq #[e.key, e.val] } = g2 at e2 t2 k2
  refine wpAny_bind ?_
  unfold Builtin.Dict_items.ownedTupleIsFree
  refine wpAny_bind (wpAny_field e2 rfl (x := Value.none) rfl (wpAny_pure ?_))
  simp only [if_true]
  refine wpAny_bind (wpAny_field e2 rfl (x := ok) rfl (wpAny_bind (wpAny_field e2 rfl (x := ov) rfl (wpAny_bind (wpAny_setField_rec e2 (by simp) fun g3 e3 b3 => ?_)))))
  replace b3 : Heap.SameBut it g2 g3 := b3
  replace e3 : IsItemIter g3 it d (i + 1) es.size ep e.key ov := e3
  refine wpAny_bind (wpAny_setField_rec e3 (by simp) fun g4 e4 b4 => ?_)
  replace b4 : Heap.SameBut it g3 g4 := b4
  replace e4 : IsItemIter g4 it d (i + 1) es.size ep e.key e.val := e4
  refine wpAny_bind (wpAny_setField_rec e4 (by simp) fun g5 e5 b5 => ?_)
  replace b5 : Heap.SameBut it g4 g5 := b5
  replace e5 : IsItemIterOut g5 it d (i + 1) es.size ep e.key e.val hp.objs.size := e5
  refine wpAny_bind (wpAny_setField_rec e5 (by simp) fun g6 e6 b6 => ?_)
  replace b6 : Heap.SameBut it g5 g6 := b6
  replace e6 : IsItemIterOut g6 it d (i + 1) es.size ep e.key e.val hp.objs.size := e6
  have up : ∀ b o, b ≠ it -> g2.get? b = some o -> g6.get? b = some o := fun b o hb z => b6.extBut b o hb (b5.extBut b o hb (b4.extBut b o hb (b3.extBut b o hb z)))
  exact wpAny_bind (wpAny_letGo (wpAny_pure (wpAny_pure ⟨_, rfl, wpAny_pure (q g6 e6 (up _ _ (Nat.ne_of_gt il) t2) fun b o hb z => up b o hb (k2 b o hb z))⟩)))
theorem items_end {ok ov : Value} {Q : Option Value -> Shared -> Prop} (hh : A.handled = none) (hit : IsItemIter s.heap it d i es.size ep ok ov) (ho : s.heap.get? d = some o) (hd : o.data = .dict es ep) (hx : es.size <= i)
    (q : ∀ h', Heap.ExtBut it s.heap h' -> Q none { s with heap := h' }) : wpAny (model prog w) A (pyNext (.ref it)) Q E s := by
  have ty : s.TypeIs (.ref it) "dict_itemiterator" := ⟨_, hit, rfl⟩
  unfold pyNext
  refine wpAny_bind (wpAny_attempt (wpAny_callSpecial?_slot (name := Str.ofString "__next__") ty F.slot_dict_itemiterator_next (wpAny_call_entry F.slot_dict_itemiterator_next ty F.entry_dict_itemiterator_next ?_ (F.args_dict_itemiterator_next_1 _))))
  refine wpAny_bind (wpAny_pure (wpAny_bind (wpAny_bind (wpAny_bind (wpAny_typeNameOfWhole_itemiter ty (wpAny_pure (wpAny_bind (wpAny_fieldsOf hit rfl ?_))))))))
  simp only [show Builtin.Dict_items.ownsTuple "dict_itemiterator" = true from by decide, if_true]
  show wpAny _ _ (if (Value.ref d == Value.none) = true then _ else _) _ _ s
  rw [if_neg (show ¬ (Value.ref d == Value.none) = true from Bool.false_ne_true)]
  refine wpAny_bind (wpAny_pure (wpAny_bind (wpAny_dictEntries ho hd ?_)))
  rw [if_neg (by simp)]
  refine wpAny_bind (wpAny_pure (wpAny_bind (wpAny_dictEpoch ho hd ?_)))
  rw [if_neg (by simp)]
  refine wpAny_pure ?_
  simp only [show ¬ ((i : Int) < 0) from by lia, if_false, Int.toNat_natCast, Array.getElem?_eq_none hx]
  refine wpAny_bind (wpAny_bind (wpAny_typeNameOfWhole_itemiter ty (wpAny_pure ?_)))
  show wpAny _ _ (setField (.ref it) 2 .none >>= _) _ _ s
  refine wpAny_bind (wpAny_setField hit rfl (by simp) ?_)
  show wpAny _ _ (newExc (.type "StopIteration") [] >>= _) _ _ _
  refine wpAny_bind ?_
  simp only [newExc, newTuple]
  refine wpAny_bind (wpAny_newObj_type (wpAny_bind (m := firstArgMember _ _) (wpAny_of_eq (a := Value.none) (by first | rfl | (simp only [firstArgMember]; rfl)) (wpAny_newObj_type ?_ (by size_fits)))) (by size_fits))
  simp only [raiseNew]
  refine wpAny_bind (wpAny_handled ?_)
  rw [show A.in1.handled = none from hh]
  refine wpAny_bind (wpAny_pure (wpAny_throw ?_))
  exact wpAny_bind (wpAny_isInstance (T := "StopIteration") (b := true) ⟨_, Heap.get?_push_size _ rfl, rfl⟩ isSubtype_stop (wpAny_pure (q _ (((Heap.SameBut.update ..).extBut.push _).push _))))
end
abbrev TTab := List (List Key × V)
section
variable {X : Cx} {pins : List (Addr × Obj)} {σ : St} {H : Hp} {s : Shared} {d : Addr} {kvs : TTab}
theorem KT.at {H : Hp} : ∀ {kvs : TTab} {xs : List (List Key × Addr × Value)} {i : Nat} {k : List Key} {v : V}, KT H kvs xs -> kvs[i]? = some (k, v) -> ∃ b u, xs[i]? = some (k, b, u) /\ H b = some (.tup (k.map kV)) /\ RelV v u
  | _, _, _, _, _, .nil, e => by simp at e
  | _, _, 0, k, v, .cons (a := p) (b := q) r _, e => by
    simp at e
    subst e
    obtain ⟨r1, r2, r3⟩ := r
    obtain ⟨q1, q2, q3⟩ := q
    cases (show k = q1 from r1)
    exact ⟨q2, q3, by simp, r2, r3⟩
  | _, _, i + 1, k, v, .cons _ t, e => by
    obtain ⟨b, u, h1, h2⟩ := KT.at (i := i) t (by simpa using e)
    exact ⟨b, u, by simpa using h1, h2⟩
theorem frz_raw {o : Obj} (I : Inv X pins σ H s) (h : H d = some (.frz o (.dT kvs))) : s.heap.get? d = some o /\ ∃ xs es ep, KT H kvs xs /\ o.ExactDict /\ o.data = .dict es ep /\ es.toList = xs.map (entryOfKey (tupleKind (mixKind X.prog X.w))) := by
  obtain ⟨g, z, y, xs, r, o', es, ep, g', h1, h2, h3, _⟩ := I.hok d _ h
  rw [g] at g'
  cases g'
  exact ⟨g, xs, es, ep, r, h1, h2, h3⟩
theorem frz_at {o : Obj} {es : Array DictEntry} {ep : Nat} (I : Inv X pins σ H s) (h : H d = some (.frz o (.dT kvs))) (hd : o.data = .dict es ep) {i : Nat} {k : List Key} {v : V} (e : kvs[i]? = some (k, v)) :
    ∃ en b, es[i]? = some en /\ en.key = .ref b /\ H b = some (.tup (k.map kV)) /\ RelV v en.val := by
  obtain ⟨g, xs, es', ep', r, h1, h2, h3⟩ := frz_raw I h
  rw [hd] at h2
  cases h2
  obtain ⟨b, u, e1, e2, e3⟩ := KT.at r e
  have e4 : es.toList[i]? = some (entryOfKey (tupleKind (mixKind X.prog X.w)) (k, b, u)) := by rw [h3, List.getElem?_map, e1]; rfl
  exact ⟨_, b, by rw [Array.getElem?_toList] at e4; exact e4, rfl, e2, e3⟩
theorem Inv.freeze (I : Inv X pins σ H s) (h : H d = some (.dT kvs)) : ∃ o es ep, s.heap.get? d = some o /\ o.ExactDict /\ o.data = .dict es ep /\ (d == sysModules) = false /\ es.size = kvs.length /\ Inv X pins σ (upd H d (.frz o (.dT kvs))) s := by
  obtain ⟨z, y, xs, r, o, es, ep, g, h1, h2, h3, h4⟩ := I.hok d _ h
  refine ⟨o, es, ep, g, h1, h2, y, ?_, ?_⟩
  · have := congrArg List.length h3
    rw [List.length_map, <- Paired.length r] at this
    simpa using this
  · refine I.write (x := d) (e := d) (h' := s.heap) (t' := s.toks) (by rw [h]; exact True.intro) (.inl rfl) (fun _ _ _ q => q) ⟨o, g⟩ ⟨g, z, y, xs, KT.keeps r fun c ys ec => ?_, o, es, ep, g, h1, h2, h3, h4⟩
    rw [upd_ne (ne_of ec h (fun z => nomatch z))]
    exact ec
end
def viewO (v d : Addr) : HO := .ext fun h => h.IsItemsView v d
section
variable {X : Cx}
def rItems : V -> List V -> Hp -> VK -> Prop := fun x xs H Q => ∃ d kvs, x = .ref d /\ xs = [] /\ H d = some (.dT kvs) /\ ∀ v, H v = none -> Q (.ref v) (upd H v (viewO v d))
theorem mt_items : MtR X "dict.items" rItems := by
  intro pins s σ H x xs v us Q I rx r h
  obtain ⟨d, kvs, rfl, rfl, hd, q⟩ := h
  cases (show v = Value.ref d from rx)
  cases Vals.zero r
  obtain ⟨z, y, ys, rr, o, es, ep, g, h1, h2, h3, h4⟩ := I.hok d _ hd
  refine items_call y g h1 ⟨.ref s.heap.objs.size, _, I.laid (t' := s.toks) (o := viewO s.heap.objs.size d) (fun b ob q => Heap.get?_push_of_some _ q) (Nat.le_refl _) ?_, rfl, q _ (I.hok.fresh (Nat.le_refl _))⟩
  exact ⟨⟨_, Heap.get?_push_size _ rfl, rfl, rfl⟩, ⟨_, Heap.get?_push_size _ rfl⟩, fun h1 h2 p k => let ⟨u, e, r⟩ := p; ⟨u, k _ e, r⟩⟩
end
def ItDI (d : Addr) (o : Obj) (kvs : TTab) : It :=
  ⟨fun i H => H d = some (.frz o (.dT kvs)) /\ i < kvs.length, fun i H x H' => ∃ T b k v, x = .ref T /\ H T = none /\ kvs[i]? = some (k, v) /\ H b = some (.tup (k.map kV)) /\ H' = upd H T (.tup [.ref b, v]), fun i H => H d = some (.frz o (.dT kvs)) /\ kvs.length <= i⟩
theorem turn_di {P : Program} {w : World} {K : PySem.W.Frag} {elts : List Expr} {x1 : Nat} {tpos : Pos} (d it : Addr) (o : Obj) (es : Array DictEntry) (ep : Nat) (kvs : TTab) (hd : o.data = .dict es ep) (hn : es.size = kvs.length) :
    Turn P w K (.Tuple elts x1 tpos) (ItDI d o kvs) [it] it (fun i h => ∃ ok ov, IsItemIter h it d i es.size ep ok ov) where
  mem := by simp
  obj := fun i h st b hb => by
    have e : b = it := by simpa using hb
    subst e
    obtain ⟨_, _, e⟩ := st
    exact ⟨_, e, fun v z => by cases z⟩
  keep := fun i h h' st k => let ⟨ok, ov, e⟩ := st; ⟨ok, ov, k it (by simp) _ e⟩
  item := by
    intro X hP hw hK hc i pins s σ H E I hf st hg
    subst hP hw hK
    obtain ⟨hq, hi⟩ := hg
    obtain ⟨ok, ov, st⟩ := st
    obtain ⟨g, _⟩ := frz_raw I hq
    obtain ⟨⟨k, v⟩, ek⟩ : ∃ p, kvs[i]? = some p := ⟨kvs[i], by simp [hi]⟩
    obtain ⟨en, b, e1, e2, e3, e4⟩ := frz_at I hq hd ek
    refine items_next st g hd e1 fun h' a1 a2 a3 => ⟨_, rfl, ?_⟩
    refine wpAny_letOwnedTupleGo_items (s := { s with heap := h' }) a1 fun h2 b1 b2 => ?_
    replace b2 : Heap.SameBut it h' h2 := b2
    have el : it < s.heap.objs.size := Heap.lt_size st
    have kk : ∀ b o, b ∉ [it] -> s.heap.get? b = some o -> h2.get? b = some o := fun b o hb q => by
      simp at hb
      exact b2.extBut b o hb (a3 b o hb q)
    have tt : h2.get? s.heap.objs.size = some { cls := .type "tuple", data := .seq #[en.key, en.val] } := b2.extBut _ _ (Nat.ne_of_gt el) a2
    have fr : H s.heap.objs.size = none := I.hok.fresh (Nat.le_refl _)
    refine ⟨.ref s.heap.objs.size, upd H s.heap.objs.size (.tup [.ref b, v]), I.turnNew (t' := s.toks) hf kk (Nat.le_refl _) ?_, rfl, ⟨_, b, k, v, rfl, fr, ek, e3, rfl⟩, ⟨_, _, b1⟩, fun c hc => ?_⟩
    · exact ⟨by show 2 <= sizeLine; decide, [en.key, en.val], .cons e2 (.cons e4 .nil), ⟨_, tt, rfl, 0, rfl⟩⟩
    · rw [upd_ne]
      · exact (hf c hc).1
      · rw [List.mem_singleton.mp hc]
        exact Nat.ne_of_lt el
  done := by
    intro X hP hw hK hc i pins s σ H E I hf st hg
    subst hP hw hK
    obtain ⟨hq, hi⟩ := hg
    obtain ⟨ok, ov, st⟩ := st
    obtain ⟨g, _⟩ := frz_raw I hq
    exact items_end (I.ok.hd hc) st g hd (by lia) fun h' q => ⟨rfl, I.turnM (t' := s.toks) hf fun b o hb z => q b o (fun y => hb (by simp [y])) z⟩
  self := fun _ _ _ _ _ st h => let ⟨_, _, he⟩ := st; PySem.W.kcp_self he h
def iDI (tv : TE) : TI := fun σ H R => tv σ H fun x H1 => ∃ v d kvs, x = .ref v /\ H1 v = some (viewO v d) /\ H1 d = some (.dT kvs) /\ ∀ o, R (ItDI d o kvs) (upd H1 d (.frz o (.dT kvs)))
theorem pi_ditems {X : Cx} {elts : List Expr} {x1 : Nat} {tpos : Pos} {l : Expr} {tl : TE} (hl : PE X l tl) : PI X (.Tuple elts x1 tpos) l (iDI tl) := by
  intro pins s σ H R I h
  refine thn (hl pins s σ H _ I h) fun u s1 ⟨x, H1, I1, r1, q1⟩ => ?_
  obtain ⟨v, d, kvs, rfl, hv, hq, q⟩ := q1
  cases (show u = Value.ref v from r1)
  obtain ⟨vw, _⟩ := I1.hok v _ hv
  obtain ⟨o, es, ep, g, y1, y2, y, hn, I2⟩ := I1.freeze hq
  refine items_iter vw g y2 ?_
  refine ⟨s1.heap.objs.size, [s1.heap.objs.size], _, _, upd H1 d (.frz o (.dT kvs)), rfl, I2.kept (t' := s1.toks) fun b o e => Heap.get?_push_of_some _ e, turn_di d _ o es ep kvs y2 hn, ⟨_, _, Heap.get?_push_size _ rfl⟩, fun b hb => ?_, q o⟩
  have e : b = s1.heap.objs.size := by simpa using hb
  subst e
  exact I2.fpOk (Nat.le_refl _) (I2.hok.fresh (Nat.le_refl _))
theorem comp_di {d : Addr} {o : Obj} {kvs : TTab} {g : TG} {tt : TT} {te : TE} {fin : List V -> Hp -> Prop} {σ : St} {H : Hp} (S : St -> Prop) (Pv : Nat -> List V -> Hp -> Prop) (hσ : S σ) (h0 : Pv 0 [] H) (hz : kvs.length < sizeLine)
    (hl : ∀ i ys H, Pv i ys H -> H d = some (.frz o (.dT kvs)))
    (hs : ∀ (i : Nat) (T b : Addr) (k : List Key) (v : V) (ys : List V) (σ : St) (H : Hp) (N : List V -> St -> Hp -> Prop), kvs[i]? = some (k, v) -> H T = none -> H b = some (.tup (k.map kV)) -> S σ -> Pv i ys H -> (∀ ys' σ' H', S σ' -> Pv (i + 1) ys' H' -> ys'.length <= ys.length + 1 -> N ys' σ' H') ->
      g (.ref T) σ (upd H T (.tup [.ref b, v])) fun σ2 H2 => tt σ2 H2 fun b H3 => if b = true then te σ2 H3 fun y H4 => N (ys ++ [y]) σ2 H4 else N ys σ2 H3)
    (hd : ∀ ys H, Pv kvs.length ys H -> fin ys H) : ∃ W, CompW (ItDI d o kvs) g tt te fin W /\ ∃ m, W 0 m [] σ H := by
  refine ⟨fun i m ys σ H => m = kvs.length - i /\ i <= kvs.length /\ ys.length <= i /\ S σ /\ Pv i ys H, ?_, kvs.length, by simp, Nat.zero_le _, Nat.le_refl _, hσ, h0⟩
  rintro i m ys σ H ⟨rfl, hi, hy, hS, p⟩
  by_cases hlt : i < kvs.length
  · refine .inr ⟨⟨hl i ys H p, hlt⟩, by lia, fun x H' y => ?_⟩
    obtain ⟨T, b, k, v, rfl, hT, ek, eb, rfl⟩ := y
    exact hs i T b k v ys σ _ (fun ys' σ' H'' => ∃ m', m' < kvs.length - i /\ m' = kvs.length - (i + 1) /\ i + 1 <= kvs.length /\ ys'.length <= i + 1 /\ S σ' /\ Pv (i + 1) ys' H'') ek hT eb hS p (fun ys' σ' H'' a b c => ⟨_, by lia, rfl, hlt, by lia, a, b⟩)
  · have e : i = kvs.length := by lia
    subst e
    exact .inl ⟨⟨hl _ ys H p, Nat.le_refl _⟩, by lia, hd ys H p⟩
end L2
namespace L2
open PySem PySem.W PyProof.Rows
structure Ord (lt : Nat -> Nat -> Bool) : Prop where
  as : ∀ i j, lt i j = true -> lt j i = false
  tr : ∀ i j k, lt j i = false -> lt k j = false -> lt k i = false
theorem Ord.rf {lt : Nat -> Nat -> Bool} (o : Ord lt) (i : Nat) : lt i i = false := by
  cases h : lt i i with
  | false => rfl
  | true => have := o.as i i h; rw [h] at this; exact this
structure PB (N : Nat) (p : Array Nat) : Prop where
  perm : p.Perm (List.range N).toArray
theorem PB.size {N : Nat} {p : Array Nat} (h : PB N p) : p.size = N := by have := h.perm.size_eq; simpa using this
theorem PB.lt {N : Nat} {p : Array Nat} (h : PB N p) {i : Nat} (hi : i < N) : p.getD i 0 < N := by
  have hs : i < p.size := by rw [h.size]; exact hi
  have e : p.getD i 0 = p[i] := by simp [Array.getD, hs]
  rw [e]
  have hm : p[i] ∈ p := Array.getElem_mem hs
  have := h.perm.mem_iff.mp hm
  simpa using this
theorem PB.rev {N : Nat} {p : Array Nat} (h : PB N p) (i j : Nat) : PB N (kas_rev p i j) := ⟨(mirror_perm p i j _).trans h.perm⟩
theorem PB.bub {N : Nat} {p : Array Nat} (h : PB N p) (i j : Nat) : PB N (bubble p i j) := ⟨(bubble_perm p i j).trans h.perm⟩
theorem getD_of {xs ys : Array Nat} {i j : Nat} (h : xs[i]? = ys[j]?) : xs.getD i 0 = ys.getD j 0 := by
  rw [Array.getD_eq_getD_getElem?, Array.getD_eq_getD_getElem?, h]
theorem rev_at {N : Nat} {p : Array Nat} (h : PB N p) {i j : Nat} (hj : j <= N) (k : Nat) : (kas_rev p i j).getD k 0 = if i <= k /\ k < j then p.getD (i + j - 1 - k) 0 else p.getD k 0 := by
  have e := getElem?_mirror_all (xs := p) (i := i) (j := j) (by rw [h.size]; exact hj) k
  unfold kas_rev
  by_cases c : i <= k /\ k < j
  · rw [if_pos c] at e ⊢; exact getD_of e
  · rw [if_neg c] at e ⊢; exact getD_of e
theorem bub_at {N : Nat} {p : Array Nat} (h : PB N p) {k l : Nat} (hk : k < N) (hl : l <= k) (i : Nat) :
    (bubble p k (k - l)).getD i 0 = if i = l then p.getD k 0 else if l < i /\ i <= k then p.getD (i - 1) 0 else p.getD i 0 := by
  have e := getElem?_bubble (xs := p) (src := k) (by rw [h.size]; exact hk) (k - l) (by lia) i
  rw [show k - (k - l) = l by lia] at e
  by_cases c : i = l
  · rw [if_pos c] at e ⊢; exact getD_of e
  · rw [if_neg c] at e ⊢
    by_cases c2 : l < i /\ i <= k
    · rw [if_pos c2] at e ⊢; exact getD_of e
    · rw [if_neg c2] at e ⊢; exact getD_of e
section
variable {lt : Nat -> Nat -> Bool} {N : Nat}
def Up (lt : Nat -> Nat -> Bool) (p : Array Nat) (m : Nat) : Prop := ∀ i j, i <= j -> j < m -> lt (p.getD j 0) (p.getD i 0) = false
def Flat (lt : Nat -> Nat -> Bool) (p : Array Nat) (a b : Nat) : Prop := ∀ i j, a <= i -> i < b -> a <= j -> j < b -> lt (p.getD i 0) (p.getD j 0) = false
end
end L2
namespace L2
open PySem PySem.W PyProof.Rows
section
variable {prog : Program} {w : World} {A : Around} {E : Value -> Shared -> Prop} {s : Shared}
def Asks (prog : Program) (w : World) (s : Shared) (lt : Nat -> Nat -> Bool) (vs : List Value) : Prop :=
  ∀ (A : Around) (h' : Heap), (∀ b u, s.heap.get? b = some u -> h'.get? b = some u) -> 2 <= vs.length -> ∃ κ : SortKind, (∀ (E : Value -> Shared -> Prop) (Q : SortKind -> Shared -> Prop), Q κ { s with heap := h' } -> wpAny (model prog w) A (keyKind' vs.toArray) Q E { s with heap := h' }) /\
    ∀ (i j : Nat) (C : Bool -> Shared -> Prop), i < vs.length -> j < vs.length -> C (lt i j) { s with heap := h' } -> wpAny (model prog w) A (keyLt' κ (vs.getD i Value.none) (vs.getD j Value.none)) C (fun _ _ => False) { s with heap := h' }
def outOf (vs : List Value) (p : Array Nat) : List Value := p.toList.map fun i => vs.getD i Value.none
theorem sort_one {vs : List Value} (h : ¬ vs.length >= 2) : outOf vs (List.range vs.length).toArray = vs := by
  unfold outOf
  match vs with
  | [] => rfl
  | [v] => rfl
  | _ :: _ :: _ => simp at h
theorem zip_snd (vs : List Value) : (vs.toArray.zip vs.toArray).map (·.2) = vs.toArray := by
  apply Array.toList_inj.mp
  rw [Array.toList_map, Array.toList_zip]
  exact List.map_snd_zip (Nat.le_refl _)
end
end L2
namespace L2
open PySem PySem.W PyProof.Rows
theorem lex_as : ∀ (a b : List Int), HT.lexLt a b = true -> HT.lexLt b a = false
  | [], [], h => by cases h
  | [], _ :: _, _ => rfl
  | _ :: _, [], h => by cases h
  | x :: xs, y :: ys, h => by
    rw [HT.lexLt_cons] at h ⊢
    by_cases e : x = y
    · rw [if_pos e] at h; rw [if_pos e.symm]; exact lex_as xs ys h
    · rw [if_neg e] at h; rw [if_neg (Ne.symm e)]
      have := of_decide_eq_true h
      exact decide_eq_false (by lia)
theorem lex_tr : ∀ (a b c : List Int), HT.lexLt b a = false -> HT.lexLt c b = false -> HT.lexLt c a = false
  | [], [], c, _, h => h
  | [], _ :: _, [], _, h => by cases h
  | [], _ :: _, _ :: _, _, _ => rfl
  | _ :: _, [], _, h, _ => by cases h
  | x :: xs, y :: ys, [], _, h => by cases h
  | x :: xs, y :: ys, z :: zs, h1, h2 => by
    rw [HT.lexLt_cons] at h1 h2 ⊢
    by_cases e1 : y = x
    · rw [if_pos e1] at h1
      by_cases e2 : z = y
      · rw [if_pos e2] at h2
        rw [if_pos (e2.trans e1)]
        exact lex_tr xs ys zs h1 h2
      · rw [if_neg e2] at h2
        rw [if_neg (fun q => e2 (q.trans e1.symm))]
        have := of_decide_eq_false h2
        exact decide_eq_false (by lia)
    · rw [if_neg e1] at h1
      have g1 := of_decide_eq_false h1
      by_cases e2 : z = y
      · rw [if_neg (fun q => e1 (e2.symm.trans q))]
        exact decide_eq_false (by lia)
      · rw [if_neg e2] at h2
        have g2 := of_decide_eq_false h2
        rw [if_neg (by lia)]
        exact decide_eq_false (by lia)
theorem lex_ord (kss : List (List Int)) : Ord fun i j => HT.lexLt (kss.getD i []) (kss.getD j []) := ⟨fun _ _ h => lex_as _ _ h, fun _ _ _ h1 h2 => lex_tr _ _ _ h1 h2⟩
def lexZ (fin : Bool) : List Int -> List Int -> Bool
  | x :: xs, y :: ys => if x = y then lexZ fin xs ys else decide (x < y)
  | _, _ => fin
theorem lexZ_eq : ∀ (a b : List Int), lexZ (decide (a.length < b.length)) a b = HT.lexLt a b
  | [], [] => rfl
  | [], _ :: _ => by show decide _ = true; simp
  | _ :: _, [] => by show decide _ = false; simp
  | x :: xs, y :: ys => by
    rw [HT.lexLt_cons]
    show (if x = y then lexZ _ xs ys else decide (x < y)) = _
    have : decide ((x :: xs).length < (y :: ys).length) = decide (xs.length < ys.length) := by simp
    rw [this, lexZ_eq xs ys]
section
variable {prog : Program} {w : World} {A : Around} {E : Value -> Shared -> Prop} {s : Shared}
theorem ints_lex {fin : Bool} {Q : Bool -> Shared -> Prop} : ∀ {us : List Value} {ks : List Int} {ws : List Value} {ms : List Int} (i : Nat), IntsAre us ks -> IntsAre ws ms -> Q (lexZ fin ks ms) s -> KatLex prog w A true fin Q (us.zip ws) i s
  | _, _, _, _, _, .nil, _, q => kat_nil q
  | _, _, _, _, _, .cons _ _ _, .nil, q => kat_nil q
  | _, _, _, _, i, .cons (vs := us) (ns := ks) x t h1, .cons (vs := ws) (ns := ms) y u h2, q => by
    refine kat_cons (wpAny_eqBool_int (kat_go (fun e => kat_yes (ints_lex (i + 1) h1 h2 ?_)) fun e => kat_no ?_))
    · have : x = y := by simpa using e
      have z : lexZ fin (x :: ks) (y :: ms) = lexZ fin ks ms := by show (if x = y then _ else _) = _; rw [if_pos this]
      rw [z] at q; exact q
    · have : ¬ x = y := by simpa using e
      have z : lexZ fin (x :: ks) (y :: ms) = decide (x < y) := by show (if x = y then _ else _) = _; rw [if_neg this]
      rw [z] at q
      cases h0 : (true && i == 0) with
      | true => exact oneLt_int q
      | false => exact kat_one _ _ (lt_int q)
def TupI (h : Heap) (v : Value) (ks : List Int) : Prop := ∃ a o xs n, v = .ref a /\ h.get? a = some o /\ o.cls = .type "tuple" /\ o.data = .seq xs n /\ IntsAre xs.toList ks
theorem TupI.kept {h h' : Heap} {v : Value} {ks : List Int} (x : TupI h v ks) (k : ∀ b u, h.get? b = some u -> h'.get? b = some u) : TupI h' v ks := let ⟨a, o, xs, n, e, g, r⟩ := x; ⟨a, o, xs, n, e, k _ _ g, r⟩
theorem ints_first {us : List Value} {x : Int} {ks : List Int} (h : IntsAre us (x :: ks)) : ∃ t, us[0]? = some (.int x t) := by
  cases h with
  | cons _ t _ => exact ⟨t, rfl⟩
theorem tups_firsts {h : Heap} : ∀ {vs : List Value} {kss : List (List Int)}, Paired (TupI h) vs kss -> (∀ ks ∈ kss, ks ≠ []) -> ∃ fs, KatTups h vs fs /\ fs.length = vs.length /\ ∀ f ∈ fs, ∃ x t, f = .int x t
  | _, _, .nil, _ => ⟨[], .nil, rfl, fun f hf => nomatch hf⟩
  | _, _, .cons (b := ks) r t, hne => by
    obtain ⟨fs, k, l, a⟩ := tups_firsts t fun ks hk => hne ks (List.mem_cons_of_mem _ hk)
    obtain ⟨ad, o, xs, n, rfl, g, hc, hd, hi⟩ := r
    cases ks with
    | nil => exact absurd rfl (hne _ (List.mem_cons_self ..))
    | cons x ks =>
      obtain ⟨tk, e⟩ := ints_first hi
      refine ⟨.int x tk :: fs, .cons g hc hd (by rw [Array.getElem?_toList] at e; exact e) k, by simp [l], fun f hf => ?_⟩
      rcases List.mem_cons.mp hf with rfl | hf
      · exact ⟨x, tk, rfl⟩
      · exact a f hf
theorem asks_tups {vs : List Value} {kss : List (List Int)} (h : Paired (TupI s.heap) vs kss) (hne : ∀ ks ∈ kss, ks ≠ []) : Asks prog w s (fun i j => HT.lexLt (kss.getD i []) (kss.getD j [])) vs := by
  intro A h' keep two
  have h2 : Paired (TupI h') vs kss := Paired.mapP h fun _ _ x => x.kept keep
  refine ⟨tuples' true, fun E Q q => ?_, fun i j C hi hj q => ?_⟩
  · obtain ⟨fs, k, l, a⟩ := tups_firsts h2 hne
    have e : (Value.type "int" != Value.type "tuple") = true := by decide
    refine kat_kind (T := .type "int") k (by lia) (fun f hf => ?_) (by decide) (by rw [e]; exact q)
    obtain ⟨x, t, rfl⟩ := a f hf
    exact .now
  · have gi : ∀ i, i < vs.length -> ∃ v ks, vs.getD i Value.none = v /\ kss.getD i [] = ks /\ TupI h' v ks := fun i hi => by
      obtain ⟨ks, e, r⟩ := Paired.at h2 (i := i) (a := vs[i]) (by simp [hi])
      exact ⟨vs[i], ks, by simp [hi], by rw [List.getD_eq_getElem?_getD, e]; rfl, r⟩
    obtain ⟨v, ks, ev, ek, a, o, xs, n, rfl, g, _, hd, hI⟩ := gi i hi
    obtain ⟨u, ms, eu, em, b, o2, ys, n2, rfl, g2, _, hd2, hI2⟩ := gi j hj
    rw [ev, eu]
    refine kat_lt (s := { s with heap := h' }) g hd g2 hd2 (ints_lex 0 hI hI2 ?_)
    have l1 : xs.size = ks.length := by have := hI.length; simpa using this
    have l2 : ys.size = ms.length := by have := hI2.length; simpa using this
    rw [l1, l2, lexZ_eq]
    have q' : C (HT.lexLt (kss.getD i []) (kss.getD j [])) { s with heap := h' } := q
    rw [ek, em] at q'
    exact q'
end
def IntsAt (H : Hp) (v : V) (ks : List Int) : Prop := ∃ a, v = .ref a /\ H a = some (.tup (ks.map V.int))
theorem IntsAt.same {H H' : Hp} {v : V} {ks : List Int} (h : IntsAt H v ks) (e : Same H H') : IntsAt H' v ks := let ⟨a, h1, h2⟩ := h; ⟨a, h1, e _ _ h2⟩
def LexLe (a b : List Int) : Prop := HT.lexLt b a = false
section
variable {X : Cx}
theorem paired_map {α β γ : Type} {F : α -> β -> Prop} {f : γ -> α} {g : γ -> β} : ∀ {l : List γ}, (∀ c ∈ l, F (f c) (g c)) -> Paired F (l.map f) (l.map g)
  | [], _ => .nil
  | c :: l, h => .cons (h c (List.mem_cons_self ..)) (paired_map fun d hd => h d (List.mem_cons_of_mem _ hd))
theorem range_getD {α : Type} (l : List α) (d : α) : (List.range l.length).map (fun i => l.getD i d) = l := by
  apply List.ext_getElem
  · simp
  · intro i h1 h2
    simp at h1
    simp [h1]
theorem PB.list {N : Nat} {p : Array Nat} (h : PB N p) : p.toList.Perm (List.range N) := by
  have := Array.perm_iff_toList_perm.mp h.perm
  simpa using this
end
end L2
namespace L2
open PySem PySem.Spec PyProof.Rows
theorem for_seq {k : Kd} {K : PySem.W.Frag} {a : Addr} {xs : List V} {g : TG} {tb : TS} {D : Ends} {σ : St} {H : Hp} (Pv : Nat -> St -> Hp -> Prop) (h0 : Pv 0 σ H) (hl : ∀ i σ H, i <= xs.length -> Pv i σ H -> SqK k K H a xs)
    (hs : ∀ i x σ H, xs[i]? = some x -> Pv i σ H -> g x σ H fun σ2 H2 => tb { D with nx := Pv (i + 1), ct := Pv (i + 1), bk := D.nx } σ2 H2) (hd : ∀ σ H, Pv xs.length σ H -> D.nx σ H) :
    ∃ W : Nat -> Nat -> St -> Hp -> Prop, (∃ m, W 0 m σ H) /\ ∀ i m σ H, W i m σ H ->
      ((ItK k K a).stop i H /\ D.nx σ H) \/ ((ItK k K a).go i H /\ ∃ N : St -> Hp -> Prop, (∀ σ' H', N σ' H' -> ∃ m', m' < m /\ W (i + 1) m' σ' H') /\ ∀ x H', (ItK k K a).yld i H x H' -> g x σ H' fun σ2 H2 => tb { D with nx := N, ct := N, bk := D.nx } σ2 H2) := by
  cases k with
  | l => exact for_list Pv h0 hl hs hd
  | t => exact for_tup Pv h0 hl hs hd
section
variable {X : Cx}
theorem op_mulB : OpR X (binaryOp .Mult) (rI IntMulOk fun i j => .int (i * j)) := opI fun _ _ _ _ _ _ _ hc q => mul_int q hc
end
section
open PySem.SeqAt
open PySem.AutoSeq1 (wpAny_loadPart')
open PySem.MeetsSeq PySem.MeetsSeq2 PySem.MeetsSeq3
end
section
variable {X : Cx}
end
section
variable {prog : Program} {w : World} {A : Around} {E : Value -> Shared -> Prop} {s : Shared} {it l : Addr} {its : Array Value}
end
section
variable {X : Cx}
theorem boot_reversed' : bootBuiltins "reversed" = some (.type "reversed") := by first | rfl | decide +kernel
end
section
variable {prog : Program} {w : World} {A : Around} {E : Value -> Shared -> Prop} {s : Shared} {a : Addr} {led : Bool} {ns : List Int}
end
section
variable {prog : Program} {w : World} {A : Around} {R : Result -> Shared -> Prop} {I : Addr} {fp wr : List Addr} {G : Array GenState -> Array GenState -> Prop} {n : Nat} {P : Nat -> Value -> Prop} {St : Nat -> Shared -> Prop}
end
section
variable {prog : Program} {w : World} {A : Around} {E : Value -> Shared -> Prop} {s : Shared}
set_option maxHeartbeats 8000000 in
end
section
variable {prog : Program} {w : World} {A : Around} {E : Value -> Shared -> Prop} {s : Shared} {it a : Addr} {o : Obj} {es : Array (Int × Value)} {ep i : Nat} {t : SetTable} {slot : Nat}
end
section
variable {prog : Program} {w : World} {A : Around} {E : Value -> Shared -> Prop} {s : Shared} {it a : Addr} {o : Obj} {es : Array (Int × Value)} {ep i : Nat} {t : SetTable} {slot : Nat}
end
section
variable {prog : Program} {w : World} {A : Around} {E : Value -> Shared -> Prop} {s : Shared} {a : Addr} {o : Obj} {es : Array (Int × Value)} {ep : Nat} {t : SetTable}
end
section
variable {prog : Program} {w : World} {A : Around} {E : Value -> Shared -> Prop} {s : Shared} {a : Addr}
end
section
variable {X : Cx}
end
section
variable {prog : Program} {w : World} {A : Around} {E : Value -> Shared -> Prop} {s : Shared}
theorem collect_tup {l : Addr} {vs : List Value} {Q : List Value -> Shared -> Prop} (hl : IsTup s.heap l vs.toArray) (hsz : vs.length <= sizeLine)
    (h : Q vs { s with heap := (s.heap.push (seqObj "list" #[] 0)).update s.heap.objs.size (Obj.mapSeq (· ++ vs.toArray)) }) : wpAny (model prog w) A (collect (.ref l)) Q E s := by
  obtain ⟨o, ho, hc, n, hd⟩ := id hl
  unfold collect
  refine wpAny_bind (wpAny_runValue (codeAny_builtin entry_proto_collect' ?_))
  show wpAny _ _ (do again (.builtin "list.__iadd__" ⟨[<- newList [], .ref l], []⟩)) _ _ s
  refine wpAny_bind (wpAny_newList (wpAny_pure ⟨Code.quiet_builtin _ (by decide +kernel), codeAny_builtin entry_list_iadd' ?_⟩))
  show wpAny _ _ (Builtin.List.listExtendWith (.ref s.heap.objs.size) (.ref l) (.ref s.heap.objs.size)) _ _ { s with heap := s.heap.push (seqObj "list" #[] 0) }
  have ho' : (s.heap.push (seqObj "list" #[] 0)).get? l = some o := Heap.get?_push_of_some _ ho
  unfold Builtin.List.listExtendWith
  refine wpAny_bind (wpAny_typeOf (T := "tuple") ⟨o, ho', hc⟩ ?_)
  rw [if_pos (by rw [show (Value.type "tuple" == Value.type "tuple") = true from rfl]; simp)]
  refine wpAny_bind (listItems_at ho' hd (wpAny_bind (listItems_at (xs := #[]) (n := 0) (Heap.get?_push_size _ rfl) rfl ?_)))
  rw [if_neg (by simp)]
  refine wpAny_bind (listUpdate_at (xs := #[]) (n := 0) (Heap.get?_push_size _ rfl) rfl (wpAny_pure ?_) (Nat.zero_le _) (by show (#[] ++ vs.toArray).size <= sizeLine + 1; simp only [Array.size_append, List.size_toArray, List.length_nil]; omega))
  show wpAny (model prog w) A (load s.heap.objs.size >>= _) Q E { s with heap := (s.heap.push (seqObj "list" #[] 0)).update s.heap.objs.size (Obj.mapSeq (· ++ vs.toArray)) }
  refine wpAny_bind (wpAny_load (get?_update_seq (Heap.get?_push_size _ rfl) _) ?_)
  show wpAny _ _ (pure ((#[] : Array Value) ++ vs.toArray).toList) Q E _
  rw [show ((#[] : Array Value) ++ vs.toArray).toList = vs by simp]
  exact wpAny_pure h
theorem sorted_tup {l : Addr} {vs : List Value} {ns : List Int} {Q : Value -> Shared -> Prop} (hl : IsTup s.heap l vs.toArray) (hI : IntsAre vs ns) (h64 : vs.length < 64)
    (h : ∀ (out : Array Value) (ms : List Int), IntsAre out.toList ms -> ms.Perm ns -> ms.Pairwise (· <= ·) -> Q (.ref (s.heap.objs.size + 1)) { s with heap := sortedAll s.heap vs out }) :
    wpAny (model prog w) A (call (.builtin "sorted") [.ref l]) Q E s := by
  refine Calls.call_function_entry kind_sorted plain_sorted entry_sorted (args_sorted1 _) ?_
  unfold Builtin.«sorted»
  refine wpAny_bind (m := checkCount "sorted" 1 1 _) (wpAny_pure (wpAny_bind (collect_tup hl (by rw [sizeLine_eq]; omega) (wpAny_bind (wpAny_newList ?_ (by rw [sizeLine_eq]; omega))))))
  have z1 : ((s.heap.push (seqObj "list" #[] 0)).update s.heap.objs.size (Obj.mapSeq (· ++ vs.toArray))).objs.size = s.heap.objs.size + 1 := by rw [Heap.size_update, size_push']
  have oL : (((s.heap.push (seqObj "list" #[] 0)).update s.heap.objs.size (Obj.mapSeq (· ++ vs.toArray))).push (seqObj "list" vs.toArray 0)).get? (s.heap.objs.size + 1) = some (seqObj "list" vs.toArray 0) := by
    rw [<- z1]; exact Heap.get?_push_size _ rfl
  show wpAny _ _ _ _ _ { s with heap := ((s.heap.push (seqObj "list" #[] 0)).update s.heap.objs.size (Obj.mapSeq (· ++ vs.toArray))).push (seqObj "list" vs.toArray 0) }
  rw [z1]
  refine wpAny_bind (wpAny_holding (wpAny_call_entry slot_list_sort ⟨_, oL, rfl⟩ entry_list_sort (list_sort_tree oL hI h64 fun out ms a1 a2 a3 => ⟨_, rfl, ?_⟩) (args_list_sort _)))
  exact wpAny_pure ⟨_, rfl, h out ms a1 a2 a3⟩
end
section
variable {X : Cx}
theorem call_sortedTI : CallR X (.builtin "sorted") (fun xs H Q => ∃ (p : Addr) (ns : List Int), xs = [.ref p] /\ SqT X.K H p (ns.map V.int) /\ ns.length < 64 /\ ∀ (l : Addr) (ms : List Int), ms.Perm ns -> ms.Pairwise (· <= ·) -> H l = none -> Q (.ref l) (upd H l (.lst (ms.map V.int)))) := by
  intro pins s σ H xs us Q I r h
  obtain ⟨p, ns, rfl, hp, hn, q⟩ := h
  obtain ⟨u, rfl, ru⟩ := Vals.one r
  cases (show u = Value.ref p from ru)
  obtain ⟨its, r1, t1, _⟩ := I.tuple hp
  have hl : its.length = ns.length := by have := r1.length; rw [List.length_map] at this; omega
  refine sorted_tup t1 (intsAre_of r1) (by omega) fun out ms a1 a2 a3 => ?_
  obtain ⟨e, he⟩ := sortedAll_at s.heap its out
  have fr : s.heap.objs.size <= s.heap.objs.size + 1 := Nat.le_succ _
  refine ⟨.ref (s.heap.objs.size + 1), upd H (s.heap.objs.size + 1) (.lst (ms.map V.int)), I.laid (t' := s.toks) (fun b o z => sortedAll_old z) fr ?_, rfl, q _ ms a2 a3 (I.hok.fresh fr)⟩
  refine ⟨?_, out.toList, e, vals_of_ints a1, by rw [he]⟩
  rw [List.length_map, a2.length_eq]
  exact Nat.le_trans (Nat.le_of_lt hn) (by decide)
end
end L2
namespace L2
open PySem PySem.W PyProof.Rows
def gallop' : Bool -> Keyed -> Array Keyed -> Nat -> Nat -> Nat -> StateT SortSt Sem (Option Nat) := sortPriv% PySem.Builtin.gallop
section
variable {prog : Program} {w : World} {A : Around} {E : Value -> Shared -> Prop} {s : Shared} {κ : SortKind} {it : Array Keyed} {lt : Nat -> Nat -> Bool} {N : Nat}
def Cmp (prog : Program) (w : World) (A : Around) (κ : SortKind) (it : Array Keyed) (lt : Nat -> Nat -> Bool) (N : Nat) (s : Shared) : Prop := ∀ i j C, i < N -> j < N -> C (lt i j) s -> kas_cmp prog w A κ it i j C s
theorem lt_of {i j : Nat} {st : SortSt} {Q : Option Bool -> SortSt -> Prop} (c : Cmp prog w A κ it lt N s) (hk : kindOf st = κ) (hi : i < N) (hj : j < N) (h : Q (some (lt i j)) st) : wpS (model prog w) A E s (lt' (kas_item it i) (kas_item it j)) Q st := by
  rw [lt'_eq]
  refine wpS_bind (wpS_get ?_)
  rw [hk]
  refine wpS_bind (wpS_lift (wpAny_attempt (wpAny_mono (c i j (fun b s' => s' = s /\ b = lt i j) hi hj ⟨rfl, rfl⟩) (fun b s' z => ?_) fun _ _ hF => hF.elim)))
  obtain ⟨rfl, rfl⟩ := z
  exact ⟨rfl, wpS_pure h⟩
theorem elem_of {q : Array Nat} {i : Nat} {st : SortSt} {Q : Keyed -> SortSt -> Prop} (hi : i < q.size) (h : Q (kas_item it (q.getD i 0)) st) : wpS (model prog w) A E s (elem' (q.map (kas_item it)) i) Q st := by
  rw [elem'_eq]
  have e : (q.map (kas_item it))[i]? = some (kas_item it (q.getD i 0)) := by simp [Array.getD, hi]
  rw [e]
  exact wpS_pure h
def Bey (lt : Nat -> Nat -> Bool) (left : Bool) (k x : Nat) : Bool := if left = true then lt x k else !lt k x
theorem bin_ok {B : Nat -> Bool} {n lo hi : Nat} {st : SortSt} {α : Type} {Q : α -> SortSt -> Prop} {f : Nat -> (Option (Option Nat) × Nat × Nat) -> StateT SortSt Sem (ForInStep (Option (Option Nat) × Nat × Nat))} {g : (Option (Option Nat) × Nat × Nat) -> StateT SortSt Sem α}
    (mono : ∀ i j, i <= j -> j < n -> B j = true -> B i = true)
    (hd : ∀ x lo hi Q', hi <= lo -> Q' (.done (none, lo, hi)) st -> wpS (model prog w) A E s (f x (none, lo, hi)) Q' st)
    (hf : ∀ x lo hi Q', lo < hi -> hi <= n -> (B (lo + (hi - lo) / 2) = true -> Q' (.yield (none, lo + (hi - lo) / 2 + 1, hi)) st) -> (B (lo + (hi - lo) / 2) = false -> Q' (.yield (none, lo, lo + (hi - lo) / 2)) st) -> wpS (model prog w) A E s (f x (none, lo, hi)) Q' st)
    (l1 : lo <= hi) (l2 : hi <= n) (b1 : ∀ i, i < lo -> B i = true) (b2 : ∀ i, hi <= i -> i < n -> B i = false)
    (hg : ∀ lo r, r <= n -> (∀ i, i < r -> B i = true) -> (∀ i, r <= i -> i < n -> B i = false) -> wpS (model prog w) A E s (g (none, lo, r)) Q st) :
    wpS (model prog w) A E s (forIn [:n] ((none, lo, hi) : Option (Option Nat) × Nat × Nat) f >>= g) Q st := by
  refine wpS_bind (wpS_mono (wpS_forRange (I := fun x c st' => st' = st /\ ∃ lo hi, c = (none, lo, hi) /\ lo <= hi /\ hi <= n /\ hi - lo + x <= n /\ (∀ i, i < lo -> B i = true) /\ (∀ i, hi <= i -> i < n -> B i = false))
    (Q := fun c st' => st' = st /\ ∃ lo r, c = (none, lo, r) /\ r <= n /\ (∀ i, i < r -> B i = true) /\ (∀ i, r <= i -> i < n -> B i = false)) ?_ ?_ ⟨rfl, lo, hi, rfl, l1, l2, by omega, b1, b2⟩) ?_)
  · rintro x c st' _ hx ⟨rfl, lo, hi, rfl, l1, l2, l3, b1, b2⟩
    by_cases e : lo < hi
    · refine hf x lo hi _ e l2 (fun z => ⟨rfl, _, _, rfl, by omega, l2, by omega, fun i hi' => mono i _ (by omega) (by omega) z, b2⟩) (fun z => ⟨rfl, _, _, rfl, by omega, by omega, by omega, b1, fun i h1 h2 => ?_⟩)
      cases hB : B i with
      | false => rfl
      | true => rw [mono _ i h1 h2 hB] at z; cases z
    · refine hd x lo hi _ (by omega) ⟨rfl, _, _, rfl, l2, fun i hi' => b1 i (by omega), b2⟩
  · rintro c st' ⟨rfl, lo, hi, rfl, l1, l2, l3, b1, b2⟩
    have : max 0 n = n := by omega
    rw [this] at l3
    exact ⟨rfl, lo, hi, rfl, l2, fun i hi' => b1 i (by omega), b2⟩
  · rintro c st' ⟨rfl, lo, r, rfl, r1, r2, r3⟩
    exact hg lo r r1 r2 r3
theorem gallop_ok {left : Bool} {k : Nat} {q : Array Nat} {base n hint : Nat} {st : SortSt} {Q : Option Nat -> SortSt -> Prop} (c : Cmp prog w A κ it lt N s) (hk : kindOf st = κ) (kN : k < N) (qN : ∀ i, i < q.size -> q.getD i 0 < N) (hb : base + n <= q.size) (hh : hint < n)
    (mono : ∀ i j, i <= j -> j < n -> Bey lt left k (q.getD (base + j) 0) = true -> Bey lt left k (q.getD (base + i) 0) = true)
    (h : ∀ r, r <= n -> (∀ i, i < r -> Bey lt left k (q.getD (base + i) 0) = true) -> (∀ i, r <= i -> i < n -> Bey lt left k (q.getD (base + i) 0) = false) -> Q (some r) st) :
    wpS (model prog w) A E s (gallop' left (kas_item it k) (q.map (kas_item it)) base n hint) Q st := by
  generalize hB : (fun i => Bey lt left k (q.getD (base + i) 0)) = B
  have hB' : ∀ i, Bey lt left k (q.getD (base + i) 0) = B i := fun i => by rw [<- hB]
  simp only [hB'] at mono h
  have bey : ∀ (i : Nat) (Q' : Option Bool -> SortSt -> Prop), i < n -> Q' (some (B i)) st -> wpS (model prog w) A E s (elem' (q.map (kas_item it)) (base + i) >>= fun x => if left = true then lt' x (kas_item it k) else lt' (kas_item it k) x >>= fun r => pure (r.map (!·))) Q' st := by
    intro i Q' hi hq
    rw [<- hB'] at hq
    refine wpS_bind (elem_of (by omega) ?_)
    unfold Bey at hq
    cases left with
    | true =>
      rw [if_pos rfl] at hq ⊢
      exact lt_of c hk (qN _ (by omega)) kN hq
    | false =>
      rw [if_neg (by decide)] at hq ⊢
      exact wpS_bind (lt_of c hk kN (qN _ (by omega)) (wpS_pure hq))
  refine wpS_bind (bey hint _ hh ?_)
  cases b0 : B hint with
  | true =>
    dsimp only
    rw [if_pos rfl]
    refine wpS_bind (wpS_mono (wpS_forRange (I := fun x r st' => st' = st /\ ∃ lo of, r = (none, lo, of) /\ lo < of /\ x < of /\ hint + lo < n /\ B (hint + lo) = true)
      (Q := fun r st' => st' = st /\ ∃ lo of, r = (none, lo, of) /\ lo < of /\ hint + lo < n /\ B (hint + lo) = true /\ (n <= hint + of \/ (hint + of < n /\ B (hint + of) = false))) ?_ ?_ ⟨rfl, 0, 1, rfl, by omega, by omega, by omega, b0⟩) ?_)
    · rintro x r st' _ hx ⟨rfl, lo, of, rfl, l1, l2, l3, l4⟩
      dsimp only
      by_cases e : of >= n - hint
      · rw [if_pos e]
        exact wpS_pure ⟨rfl, lo, of, rfl, l1, l3, l4, .inl (by omega)⟩
      · rw [if_neg e]
        refine wpS_bind (bey (hint + of) _ (by omega) ?_)
        cases b1 : B (hint + of) with
        | true => exact wpS_pure ⟨rfl, of, 2 * of + 1, rfl, by omega, by omega, by omega, b1⟩
        | false => exact wpS_pure ⟨rfl, lo, of, rfl, l1, l3, l4, .inr ⟨by omega, b1⟩⟩
    · rintro r st' ⟨rfl, lo, of, rfl, l1, l2, l3, l4⟩
      exact ⟨rfl, lo, of, rfl, l1, l3, l4, .inl (by omega)⟩
    · rintro r st' ⟨rfl, lo, of, rfl, l1, l3, l4, l5⟩
      dsimp only
      refine bin_ok (B := B) mono ?_ ?_ (by omega) (by omega) (fun i hi => mono i _ (by omega) l3 l4) (fun i h1 h2 => ?_) ?_
      · intro x lo hi Q' e hq
        dsimp only
        rw [if_pos e]
        exact wpS_pure hq
      · intro x lo hi Q' e e2 hq1 hq2
        dsimp only
        rw [if_neg (by omega)]
        refine wpS_bind (bey _ _ (by omega) ?_)
        cases b2 : B (lo + (hi - lo) / 2) with
        | true => exact wpS_pure (hq1 b2)
        | false => exact wpS_pure (hq2 b2)
      · rcases l5 with z | ⟨z, z2⟩
        · omega
        · cases hBi : B i with
          | false => rfl
          | true => rw [mono (hint + of) i (by omega) h2 hBi] at z2; cases z2
      · intro lo r r1 r2 r3
        exact wpS_pure (h r r1 r2 r3)
  | false =>
    dsimp only
    rw [if_neg (by decide)]
    refine wpS_bind (wpS_mono (wpS_forRange (I := fun x r st' => st' = st /\ ∃ lo of, r = (none, lo, of) /\ lo < of /\ x < of /\ lo <= hint /\ B (hint - lo) = false)
      (Q := fun r st' => st' = st /\ ∃ lo of, r = (none, lo, of) /\ lo < of /\ lo <= hint /\ B (hint - lo) = false /\ (hint < of \/ (of <= hint /\ B (hint - of) = true))) ?_ ?_ ⟨rfl, 0, 1, rfl, by omega, by omega, by omega, b0⟩) ?_)
    · rintro x r st' _ hx ⟨rfl, lo, of, rfl, l1, l2, l3, l4⟩
      dsimp only
      by_cases e : of >= hint + 1
      · rw [if_pos e]
        exact wpS_pure ⟨rfl, lo, of, rfl, l1, l3, l4, .inl (by omega)⟩
      · rw [if_neg e]
        refine wpS_bind (bey (hint - of) _ (by omega) ?_)
        cases b1 : B (hint - of) with
        | true => exact wpS_pure ⟨rfl, lo, of, rfl, l1, l3, l4, .inr ⟨by omega, b1⟩⟩
        | false => exact wpS_pure ⟨rfl, of, 2 * of + 1, rfl, by omega, by omega, by omega, b1⟩
    · rintro r st' ⟨rfl, lo, of, rfl, l1, l2, l3, l4⟩
      exact ⟨rfl, lo, of, rfl, l1, l3, l4, .inl (by omega)⟩
    · rintro r st' ⟨rfl, lo, of, rfl, l1, l3, l4, l5⟩
      dsimp only
      refine bin_ok (B := B) mono ?_ ?_ (by omega) (by omega) (fun i hi => ?_) (fun i h1 h2 => ?_) ?_
      · intro x lo hi Q' e hq
        dsimp only
        rw [if_pos e]
        exact wpS_pure hq
      · intro x lo hi Q' e e2 hq1 hq2
        dsimp only
        rw [if_neg (by omega)]
        refine wpS_bind (bey _ _ (by omega) ?_)
        cases b2 : B (lo + (hi - lo) / 2) with
        | true => exact wpS_pure (hq1 b2)
        | false => exact wpS_pure (hq2 b2)
      · rcases l5 with z | ⟨z, z2⟩
        · omega
        · exact mono i (hint - of) (by omega) (by omega) z2
      · cases hBi : B i with
        | false => rfl
        | true => rw [mono (hint - lo) i (by omega) h2 hBi] at l4; cases l4
      · intro lo r r1 r2 r3
        exact wpS_pure (h r r1 r2 r3)
end
end L2
namespace L2
open PySem PySem.W PyProof.Rows
def mergeLo' : Array Keyed -> Array Keyed -> StateT SortSt Sem (Array Keyed) := sortPriv% PySem.Builtin.mergeLo
def mergeHi' : Array Keyed -> Array Keyed -> StateT SortSt Sem (Array Keyed) := sortPriv% PySem.Builtin.mergeHi
def Gs (st st' : SortSt) : Prop := kindOf st' = kindOf st /\ arrOf st' = arrOf st /\ pendingOf st' = pendingOf st /\ failedOf st' = failedOf st
section
variable {lt : Nat -> Nat -> Bool}
abbrev Le (lt : Nat -> Nat -> Bool) (x y : Nat) : Prop := lt y x = false
structure MI (lt : Nat -> Nat -> Bool) (La Lb out : List Nat) (ia ib : Nat) : Prop where
  p : (out ++ (La.drop ia ++ Lb.drop ib)).Perm (La ++ Lb)
  s : out.Pairwise (Le lt)
  c : ∀ x ∈ out, ∀ y ∈ La.drop ia ++ Lb.drop ib, Le lt x y
theorem MI.as {La Lb out : List Nat} {ia ib : Nat} (m : MI lt La Lb out ia ib) (sa : La.Pairwise (Le lt)) (k : Nat) (h : ∀ x ∈ (La.drop ia).take k, ∀ y ∈ Lb.drop ib, Le lt x y) : MI lt La Lb (out ++ (La.drop ia).take k) (ia + k) ib := by
  have e : La.drop (ia + k) = (La.drop ia).drop k := by rw [List.drop_drop]
  have t : (La.drop ia).take k ++ (La.drop ia).drop k = La.drop ia := List.take_append_drop _ _
  have sd : ((La.drop ia).take k ++ (La.drop ia).drop k).Pairwise (Le lt) := by rw [t]; exact sa.sublist (List.drop_sublist _ _)
  obtain ⟨d1, d2, d3⟩ := List.pairwise_append.mp sd
  refine ⟨?_, List.pairwise_append.mpr ⟨m.s, d1, fun x hx y hy => m.c x hx y (List.mem_append_left _ (List.mem_of_mem_take hy))⟩, fun x hx y hy => ?_⟩
  · have := m.p
    rw [<- t] at this
    rw [e]
    simpa [List.append_assoc] using this
  · rw [e] at hy
    rcases List.mem_append.mp hx with hx | hx
    · refine m.c x hx y ?_
      rcases List.mem_append.mp hy with z | z
      · exact List.mem_append_left _ (List.mem_of_mem_drop z)
      · exact List.mem_append_right _ z
    · rcases List.mem_append.mp hy with z | z
      · exact d3 x hx y z
      · exact h x hx y z
theorem MI.bs {La Lb out : List Nat} {ia ib : Nat} (m : MI lt La Lb out ia ib) (sb : Lb.Pairwise (Le lt)) (k : Nat) (h : ∀ x ∈ (Lb.drop ib).take k, ∀ y ∈ La.drop ia, Le lt x y) : MI lt La Lb (out ++ (Lb.drop ib).take k) ia (ib + k) := by
  have e : Lb.drop (ib + k) = (Lb.drop ib).drop k := by rw [List.drop_drop]
  have t : (Lb.drop ib).take k ++ (Lb.drop ib).drop k = Lb.drop ib := List.take_append_drop _ _
  have sd : ((Lb.drop ib).take k ++ (Lb.drop ib).drop k).Pairwise (Le lt) := by rw [t]; exact sb.sublist (List.drop_sublist _ _)
  obtain ⟨d1, d2, d3⟩ := List.pairwise_append.mp sd
  refine ⟨?_, List.pairwise_append.mpr ⟨m.s, d1, fun x hx y hy => m.c x hx y (List.mem_append_right _ (List.mem_of_mem_take hy))⟩, fun x hx y hy => ?_⟩
  · have := m.p
    rw [<- t] at this
    rw [e]
    refine List.Perm.trans ?_ this
    rw [List.append_assoc]
    refine List.Perm.append_left _ ?_
    rw [<- List.append_assoc, <- List.append_assoc]
    exact List.Perm.append_right _ List.perm_append_comm
  · rw [e] at hy
    rcases List.mem_append.mp hx with hx | hx
    · refine m.c x hx y ?_
      rcases List.mem_append.mp hy with z | z
      · exact List.mem_append_left _ z
      · exact List.mem_append_right _ (List.mem_of_mem_drop z)
    · rcases List.mem_append.mp hy with z | z
      · exact h x hx y z
      · exact d3 x hx y z
def Told (lt : Nat -> Nat -> Bool) (it : Array Keyed) (La Lb : List Nat) (res : Array Keyed) : Prop := ∃ L : List Nat, res.toList = L.map (kas_item it) /\ L.Perm (La ++ Lb) /\ L.Pairwise (Le lt)
theorem MI.fin {La Lb out : List Nat} {ia ib : Nat} {it : Array Keyed} {o : Array Keyed} (m : MI lt La Lb out ia ib) (ho : o.toList = out.map (kas_item it)) (sa : La.Pairwise (Le lt)) (sb : Lb.Pairwise (Le lt)) (h : La.drop ia = [] \/ Lb.drop ib = []) :
    Told lt it La Lb (o ++ (La.map (kas_item it)).toArray.extract ia (La.map (kas_item it)).toArray.size ++ (Lb.map (kas_item it)).toArray.extract ib (Lb.map (kas_item it)).toArray.size) := by
  refine ⟨out ++ (La.drop ia ++ Lb.drop ib), ?_, m.p, List.pairwise_append.mpr ⟨m.s, ?_, m.c⟩⟩
  · simp [ho, List.take_of_length_le]
  · rcases h with h | h
    · rw [h, List.nil_append]; exact sb.sublist (List.drop_sublist _ _)
    · rw [h, List.append_nil]; exact sa.sublist (List.drop_sublist _ _)
theorem MI.last {La Lb out : List Nat} {ia ib : Nat} {it : Array Keyed} {o : Array Keyed} (m : MI lt La Lb out ia ib) (ho : o.toList = out.map (kas_item it)) (sa : La.Pairwise (Le lt)) (sb : Lb.Pairwise (Le lt)) (h : ∀ x ∈ Lb, ∀ y ∈ La.drop ia, Le lt x y) :
    Told lt it La Lb (o ++ (Lb.map (kas_item it)).toArray.extract ib (Lb.map (kas_item it)).toArray.size ++ (La.map (kas_item it)).toArray.extract ia (La.map (kas_item it)).toArray.size) := by
  refine ⟨out ++ (Lb.drop ib ++ La.drop ia), ?_, ?_, List.pairwise_append.mpr ⟨m.s, List.pairwise_append.mpr ⟨sb.sublist (List.drop_sublist _ _), sa.sublist (List.drop_sublist _ _), fun x hx y hy => h x (List.mem_of_mem_drop hx) y hy⟩, fun x hx y hy => m.c x hx y ?_⟩⟩
  · simp [ho, List.take_of_length_le]
  · exact (List.Perm.append_left _ List.perm_append_comm).trans m.p
  · rcases List.mem_append.mp hy with z | z
    · exact List.mem_append_right _ z
    · exact List.mem_append_left _ z
end
section
variable {prog : Program} {w : World} {A : Around} {E : Value -> Shared -> Prop} {s : Shared} {κ : SortKind} {it : Array Keyed} {lt : Nat -> Nat -> Bool} {N : Nat}
theorem Le.tr (o : Ord lt) {x y z : Nat} (h1 : Le lt x y) (h2 : Le lt y z) : Le lt x z := o.tr x y z h1 h2
theorem head_le (o : Ord lt) {L : List Nat} {i : Nat} (sL : L.Pairwise (Le lt)) (hi : i < L.length) : ∀ y ∈ L.drop i, Le lt L[i] y := by
  intro y hy
  rw [List.drop_eq_getElem_cons hi] at hy
  rcases List.mem_cons.mp hy with z | z
  · rw [z]; exact o.rf _
  · have := sL.sublist (List.drop_sublist i L)
    rw [List.drop_eq_getElem_cons hi, List.pairwise_cons] at this
    exact this.1 y z
theorem take_one {L : List Nat} {i : Nat} (hi : i < L.length) : (L.drop i).take 1 = [L[i]] := by rw [List.drop_eq_getElem_cons hi]; rfl
theorem wp_ite {α : Type} {c : Prop} [Decidable c] {X Y : StateT SortSt Sem α} {st : SortSt} {Q : α -> SortSt -> Prop} (h1 : c -> wpS (model prog w) A E s X Q st) (h2 : ¬ c -> wpS (model prog w) A E s Y Q st) : wpS (model prog w) A E s (if c then X else Y) Q st := by
  by_cases h : c
  · rw [if_pos h]; exact h1 h
  · rw [if_neg h]; exact h2 h
theorem wp_yes {α : Type} {c : Prop} [Decidable c] {X Y : StateT SortSt Sem α} {st : SortSt} {Q : α -> SortSt -> Prop} (h : c) (h1 : wpS (model prog w) A E s X Q st) : wpS (model prog w) A E s (if c then X else Y) Q st := by rw [if_pos h]; exact h1
theorem wp_no {α : Type} {c : Prop} [Decidable c] {X Y : StateT SortSt Sem α} {st : SortSt} {Q : α -> SortSt -> Prop} (h : ¬ c) (h1 : wpS (model prog w) A E s Y Q st) : wpS (model prog w) A E s (if c then X else Y) Q st := by rw [if_neg h]; exact h1
theorem mem_slice {L : List Nat} {b r x : Nat} (h : x ∈ (L.drop b).take r) : ∃ i, i < r /\ b + i < L.length /\ x = L.getD (b + i) 0 := by
  obtain ⟨i, hi, rfl⟩ := List.getElem_of_mem h
  rw [List.length_take, List.length_drop] at hi
  refine ⟨i, by omega, by omega, ?_⟩
  rw [List.getElem_take, List.getElem_drop, List.getD_eq_getElem?_getD, List.getElem?_eq_getElem (by omega)]
  rfl
theorem mem_dropN {L : List Nat} {b x : Nat} (h : x ∈ L.drop b) : ∃ i, b + i < L.length /\ x = L.getD (b + i) 0 := by
  obtain ⟨i, hi, rfl⟩ := List.getElem_of_mem h
  rw [List.length_drop] at hi
  refine ⟨i, by omega, ?_⟩
  rw [List.getElem_drop, List.getD_eq_getElem?_getD, List.getElem?_eq_getElem (by omega)]
  rfl
theorem gallopL_ok {left : Bool} {k : Nat} {L : List Nat} {base n hint : Nat} {st : SortSt} {Q : Option Nat -> SortSt -> Prop} (c : Cmp prog w A κ it lt N s) (o : Ord lt) (hk : kindOf st = κ) (kN : k < N) (qN : ∀ x ∈ L, x < N) (hb : base + n <= L.length) (hh : hint < n) (sL : L.Pairwise (Le lt))
    (h : ∀ r, r <= n -> (∀ i, i < r -> Bey lt left k (L.getD (base + i) 0) = true) -> (∀ i, r <= i -> i < n -> Bey lt left k (L.getD (base + i) 0) = false) -> Q (some r) st) :
    wpS (model prog w) A E s (gallop' left (kas_item it k) (L.map (kas_item it)).toArray base n hint) Q st := by
  have e : (L.map (kas_item it)).toArray = L.toArray.map (kas_item it) := by simp
  have g : ∀ i, L.toArray.getD i 0 = L.getD i 0 := fun i => by rw [Array.getD_eq_getD_getElem?, List.getD_eq_getElem?_getD]; simp
  rw [e]
  refine gallop_ok c hk kN (fun i hi => ?_) (by simpa using hb) hh (fun i j hij hj hB => ?_) (fun r r1 r2 r3 => h r r1 (fun i hi => ?_) (fun i h1 h2 => ?_))
  · rw [g]
    have hi' : i < L.length := by simpa using hi
    rw [List.getD_eq_getElem?_getD, List.getElem?_eq_getElem hi']
    exact qN _ (List.getElem_mem hi')
  · rw [g] at hB ⊢
    have lij : Le lt (L.getD (base + i) 0) (L.getD (base + j) 0) := by
      have h1 : base + i < L.length := by omega
      have h2 : base + j < L.length := by omega
      rw [List.getD_eq_getElem?_getD, List.getElem?_eq_getElem h1, List.getD_eq_getElem?_getD, List.getElem?_eq_getElem h2]
      by_cases e : i = j
      · subst e; exact o.rf _
      · exact List.pairwise_iff_getElem.mp sL _ _ h1 h2 (by omega)
    unfold Bey at hB ⊢
    cases left with
    | true =>
      rw [if_pos rfl] at hB ⊢
      cases z : lt (L.getD (base + i) 0) k with
      | true => rfl
      | false => rw [Le.tr o (x := k) z lij] at hB; cases hB
    | false =>
      rw [if_neg (by decide)] at hB ⊢
      have hB' : Le lt (L.getD (base + j) 0) k := by simpa using hB
      have := Le.tr o lij hB'
      rw [this]
      rfl
  · have := r2 i hi; rw [g] at this; exact this
  · have := r3 i h1 h2; rw [g] at this; exact this
theorem el_of {L : List Nat} {i : Nat} {st : SortSt} {Q : Keyed -> SortSt -> Prop} (hi : i < L.length) (h : Q (kas_item it L[i]) st) : wpS (model prog w) A E s (elem' (L.map (kas_item it)).toArray i) Q st := by
  rw [elem'_eq]
  have e : (L.map (kas_item it)).toArray[i]? = some (kas_item it L[i]) := by simp [hi]
  rw [e]
  exact wpS_pure h
def At (lt : Nat -> Nat -> Bool) (it : Array Keyed) (La Lb : List Nat) (out : Array Keyed) (ia ib : Nat) : Prop := ∃ L : List Nat, out.toList = L.map (kas_item it) /\ MI lt La Lb L ia ib
theorem At.b1 (o : Ord lt) {La Lb : List Nat} {out : Array Keyed} {ia ib : Nat} (h : At lt it La Lb out ia ib) (sb : Lb.Pairwise (Le lt)) (hi : ib < Lb.length) (hle : ∀ y ∈ La.drop ia, Le lt Lb[ib] y) : At lt it La Lb (out.push (kas_item it Lb[ib])) ia (ib + 1) := by
  obtain ⟨L, e, m⟩ := h
  have := m.bs sb 1 (by rw [take_one hi]; intro x hx; rw [List.mem_singleton.mp hx]; exact hle)
  rw [take_one hi] at this
  exact ⟨_, by rw [Array.toList_push, e, List.map_append]; rfl, this⟩
theorem At.a1 (o : Ord lt) {La Lb : List Nat} {out : Array Keyed} {ia ib : Nat} (h : At lt it La Lb out ia ib) (sa : La.Pairwise (Le lt)) (hi : ia < La.length) (hle : ∀ y ∈ Lb.drop ib, Le lt La[ia] y) : At lt it La Lb (out.push (kas_item it La[ia])) (ia + 1) ib := by
  obtain ⟨L, e, m⟩ := h
  have := m.as sa 1 (by rw [take_one hi]; intro x hx; rw [List.mem_singleton.mp hx]; exact hle)
  rw [take_one hi] at this
  exact ⟨_, by rw [Array.toList_push, e, List.map_append]; rfl, this⟩
theorem At.an {La Lb : List Nat} {out : Array Keyed} {ia ib : Nat} (h : At lt it La Lb out ia ib) (sa : La.Pairwise (Le lt)) (k : Nat) (hle : ∀ x ∈ (La.drop ia).take k, ∀ y ∈ Lb.drop ib, Le lt x y) : At lt it La Lb (out ++ (La.map (kas_item it)).toArray.extract ia (ia + k)) (ia + k) ib := by
  obtain ⟨L, e, m⟩ := h
  exact ⟨_, by simp [e, List.map_take, List.map_drop], m.as sa k hle⟩
theorem At.bn {La Lb : List Nat} {out : Array Keyed} {ia ib : Nat} (h : At lt it La Lb out ia ib) (sb : Lb.Pairwise (Le lt)) (k : Nat) (hle : ∀ x ∈ (Lb.drop ib).take k, ∀ y ∈ La.drop ia, Le lt x y) : At lt it La Lb (out ++ (Lb.map (kas_item it)).toArray.extract ib (ib + k)) ia (ib + k) := by
  obtain ⟨L, e, m⟩ := h
  exact ⟨_, by simp [e, List.map_take, List.map_drop], m.bs sb k hle⟩
end
end L2
namespace L2
open PySem PySem.W PyProof.Rows
section
variable {prog : Program} {w : World} {A : Around} {E : Value -> Shared -> Prop} {s : Shared} {κ : SortKind} {it : Array Keyed} {lt : Nat -> Nat -> Bool} {N : Nat}
theorem Gs.refl (st : SortSt) : Gs st st := ⟨rfl, rfl, rfl, rfl⟩
theorem Told.fin {La Lb : List Nat} {out : Array Keyed} {ia ib : Nat} (h : At lt it La Lb out ia ib) (sa : La.Pairwise (Le lt)) (sb : Lb.Pairwise (Le lt)) (z : La.length <= ia \/ Lb.length <= ib) :
    Told lt it La Lb (out ++ (La.map (kas_item it)).toArray.extract ia (La.map (kas_item it)).toArray.size ++ (Lb.map (kas_item it)).toArray.extract ib (Lb.map (kas_item it)).toArray.size) := by
  obtain ⟨L, e, m⟩ := h
  exact m.fin e sa sb (z.elim (fun z => .inl (List.drop_eq_nil_of_le z)) fun z => .inr (List.drop_eq_nil_of_le z))
theorem Told.last {La Lb : List Nat} {out : Array Keyed} {ia ib : Nat} (h : At lt it La Lb out ia ib) (sa : La.Pairwise (Le lt)) (sb : Lb.Pairwise (Le lt)) (hl : ∀ x ∈ Lb, ∀ y ∈ La.drop (La.length - 1), Le lt x y) (z : ia + 1 = La.length) :
    Told lt it La Lb (out ++ (Lb.map (kas_item it)).toArray.extract ib (Lb.map (kas_item it)).toArray.size ++ (La.map (kas_item it)).toArray.extract ia (La.map (kas_item it)).toArray.size) := by
  obtain ⟨L, e, m⟩ := h
  have : ia = La.length - 1 := by omega
  subst this
  exact m.last e sa sb hl
theorem mergeLo_ok {La Lb : List Nat} {st : SortSt} {Q : Array Keyed -> SortSt -> Prop} (c : Cmp prog w A κ it lt N s) (o : Ord lt) (hk : kindOf st = κ) (aN : ∀ x ∈ La, x < N) (bN : ∀ x ∈ Lb, x < N) (sa : La.Pairwise (Le lt)) (sb : Lb.Pairwise (Le lt)) (ha : 0 < La.length) (hb : 0 < Lb.length)
    (hf : ∀ y ∈ La, Le lt Lb[0] y) (hl : ∀ x ∈ Lb, ∀ y ∈ La.drop (La.length - 1), Le lt x y) (h : ∀ res st', Gs st st' -> Told lt it La Lb res -> Q res st') : wpS (model prog w) A E s (mergeLo' (La.map (kas_item it)).toArray (Lb.map (kas_item it)).toArray) Q st := by
  refine wpS_bind ?_
  refine wpS_lift (wpAny_rule ⟨rfl, ?_⟩)
  dsimp only
  refine wpS_bind (el_of hb ?_)
  have sz : ∀ L : List Nat, (L.map (kas_item it)).toArray.size = L.length := fun L => by simp
  have at0 : At lt it La Lb #[kas_item it Lb[0]] 0 1 := by
    have m0 : MI lt La Lb [] 0 0 := ⟨by simp, .nil, fun x hx => nomatch hx⟩
    have := At.b1 (it := it) o (out := #[]) ⟨[], rfl, m0⟩ sb hb (by simpa using hf)
    exact this
  by_cases e1 : 1 = Lb.length
  · rw [if_pos (by simp [e1])]
    exact wpS_pure (h _ _ (Gs.refl _) (Told.fin at0 sa sb (.inr (by omega))))
  rw [if_neg (by simp [e1])]
  by_cases e2 : 0 + 1 = La.length
  · rw [if_pos (by simp; omega)]
    exact wpS_pure (h _ _ (Gs.refl _) (Told.last at0 sa sb hl e2))
  rw [if_neg (by simp; omega)]
  refine wpS_bind (wpS_get ?_)
  generalize gallopOf st = mg0
  refine wpS_bind (wpS_mono (wpS_forRange
    (I := fun x r st' => Gs st st' /\ ∃ out ia ib mg, r = (none, out, ia, ib, mg) /\ At lt it La Lb out ia ib /\ ia + 1 < La.length /\ ib < Lb.length /\ x + 1 <= ia + ib)
    (Q := fun r st' => Gs st st' /\ ∃ res z, r = (some res, z) /\ Told lt it La Lb res) ?_ ?_ ⟨Gs.refl _, _, 0, 1, _, rfl, at0, by omega, by omega, by omega⟩) ?_)
  rotate_left
  · rintro r st' ⟨_, out, ia, ib, mg, rfl, a1, a2, a3, a4⟩
    exfalso
    rw [sz, sz] at a4
    omega
  · rintro r st' ⟨g, res, z, rfl, t⟩
    exact wpS_pure (h _ _ g t)
  rintro x r st1 _ hx ⟨g1, out, ia, ib, mg, rfl, a1, a2, a3, a4⟩
  dsimp only
  refine wpS_bind (wpS_mono (wpS_forRange
    (I := fun y r st' => st' = st1 /\ ∃ out' ia' ib' ac bc, r = (none, out', ia', ib', ac, bc) /\ At lt it La Lb out' ia' ib' /\ ia' + 1 < La.length /\ ib' < Lb.length /\ ia + ib + y <= ia' + ib')
    (Q := fun r st' => st' = st1 /\ ((∃ res z, r = (some res, z) /\ Told lt it La Lb res) \/ ∃ out' ia' ib' ac bc, r = (none, out', ia', ib', ac, bc) /\ At lt it La Lb out' ia' ib' /\ ia' + 1 < La.length /\ ib' < Lb.length /\ ia + ib + 1 <= ia' + ib')) ?_ ?_ ⟨rfl, _, _, _, _, _, rfl, a1, a2, a3, by omega⟩) ?_)
  · rintro y r st' _ hy ⟨rfl, out, ia', ib', ac, bc, rfl, b1, b2, b3, b4⟩
    dsimp only
    refine wpS_bind (el_of b3 (wpS_bind (el_of (show ia' < La.length by omega) (wpS_bind (lt_of c (g1.1.trans hk) (bN _ (List.getElem_mem _)) (aN _ (List.getElem_mem _)) ?_)))))
    cases w1 : lt Lb[ib'] La[ia'] with
    | true =>
      dsimp only
      rw [if_pos rfl]
      refine wpS_bind (el_of b3 ?_)
      have n1 := At.b1 o b1 sb b3 fun z hz => Le.tr o (o.as _ _ w1) (head_le o sa (by omega) z hz)
      by_cases f1 : ib' + 1 = Lb.length
      · rw [if_pos (by simp [f1])]
        exact wpS_pure ⟨rfl, .inl ⟨_, _, rfl, Told.fin n1 sa sb (.inr (by omega))⟩⟩
      · rw [if_neg (by simp [f1])]
        split
        · exact wpS_pure ⟨rfl, .inr ⟨_, _, _, _, _, rfl, n1, b2, by omega, by omega⟩⟩
        · exact wpS_pure ⟨rfl, _, _, _, _, _, rfl, n1, b2, by omega, by omega⟩
    | false =>
      dsimp only
      rw [if_neg (by decide)]
      refine wpS_bind (el_of (show ia' < La.length by omega) ?_)
      have n1 := At.a1 o b1 sa (show ia' < La.length by omega) fun z hz => Le.tr o w1 (head_le o sb b3 z hz)
      by_cases f1 : ia' + 1 + 1 = La.length
      · rw [if_pos (by simp [f1])]
        exact wpS_pure ⟨rfl, .inl ⟨_, _, rfl, Told.last n1 sa sb hl f1⟩⟩
      · rw [if_neg (by simp [f1])]
        split
        · exact wpS_pure ⟨rfl, .inr ⟨_, _, _, _, _, rfl, n1, by omega, b3, by omega⟩⟩
        · exact wpS_pure ⟨rfl, _, _, _, _, _, rfl, n1, by omega, b3, by omega⟩
  · rintro r st' ⟨_, out, ia', ib', ac, bc, rfl, b1, b2, b3, b4⟩
    exfalso
    rw [sz, sz] at b4
    omega
  rintro r st' ⟨rfl, z⟩
  rcases z with ⟨res, z, rfl, t⟩ | ⟨out2, ia2, ib2, ac, bc, rfl, b1, b2, b3, b4⟩
  · dsimp only
    exact wpS_pure ⟨g1, _, _, rfl, t⟩
  dsimp only
  refine wpS_bind (wpS_lift (wpAny_rule ⟨rfl, ?_⟩))
  refine wpS_bind (wpS_mono (wpS_forRange
    (I := fun y r st' => Gs st st' /\ ∃ out' ia' ib' mg ac bc, r = (none, out', ia', ib', mg, ac, bc) /\ At lt it La Lb out' ia' ib' /\ ia' + 1 < La.length /\ ib' < Lb.length /\ ia + ib + 1 + y <= ia' + ib')
    (Q := fun r st' => Gs st st' /\ ((∃ res z, r = (some res, z) /\ Told lt it La Lb res) \/ ∃ out' ia' ib' mg ac bc, r = (none, out', ia', ib', mg, ac, bc) /\ At lt it La Lb out' ia' ib' /\ ia' + 1 < La.length /\ ib' < Lb.length /\ ia + ib + 1 <= ia' + ib')) ?_ ?_ ⟨g1, _, _, _, _, _, _, rfl, b1, b2, b3, by omega⟩) ?_)
  rotate_left
  · rintro r st' ⟨_, out, ia', ib', mg, ac, bc, rfl, b1, b2, b3, b4⟩
    exfalso
    rw [sz, sz] at b4
    omega
  · rintro r st' ⟨g2, z⟩
    rcases z with ⟨res, z, rfl, t⟩ | ⟨out3, ia3, ib3, mg3, ac3, bc3, rfl, d1, d2, d3, d4⟩
    · dsimp only
      exact wpS_pure ⟨g2, _, _, rfl, t⟩
    · dsimp only
      refine wpS_bind (wpS_modify (wpS_pure ⟨⟨g2.1, g2.2.1, g2.2.2.1, g2.2.2.2⟩, _, _, _, _, rfl, d1, d2, d3, by omega⟩))
  clear b1 b2 b3 b4 a1 a2 a3
  rintro y r st2 _ hy ⟨g2, out, ia', ib', mg, ac, bc, rfl, b1, b2, b3, b4⟩
  dsimp only
  refine wp_ite (fun _ => ?_) (fun _ => ?_)
  all_goals
    refine wpS_bind (wpS_modify ?_)
    refine wpS_bind (el_of b3 ?_)
    refine wpS_bind (gallopL_ok c o (by exact g2.1.trans hk) (bN _ (List.getElem_mem _)) aN (by rw [sz]; omega) (by rw [sz]; omega) sa fun k k1 k2 k3 => ?_)
    rw [sz] at k1 k3
    dsimp only
    have A1 := b1.an sa k fun x hx y hy => by
      obtain ⟨j, j1, j2, rfl⟩ := mem_slice hx
      have := k2 j j1
      unfold Bey at this
      rw [if_neg (by decide)] at this
      exact Le.tr o (show Le lt _ Lb[ib'] by simpa using this) (head_le o sb b3 y hy)
    have R1 : ∀ y ∈ La.drop (ia' + k), Le lt Lb[ib'] y := fun y hy => by
      obtain ⟨j, j1, rfl⟩ := mem_dropN hy
      have := k3 (k + j) (by omega) (by omega)
      unfold Bey at this
      rw [if_neg (by decide), <- Nat.add_assoc] at this
      exact o.as _ _ (by simpa using this)
    by_cases kp : k > 0
    case' pos =>
      refine wp_yes kp ?_
      by_cases f1 : ia' + k + 1 = La.length
      · refine wp_yes (by simp [f1]) ?_
        exact wpS_pure ⟨⟨g2.1, g2.2.1, g2.2.2.1, g2.2.2.2⟩, .inl ⟨_, _, rfl, Told.last A1 sa sb hl f1⟩⟩
      refine wp_no (by simp [f1]) ?_
      by_cases f2 : ia' + k = La.length
      · refine wp_yes (by simp [f2]) ?_
        exact wpS_pure ⟨⟨g2.1, g2.2.1, g2.2.2.1, g2.2.2.2⟩, .inl ⟨_, _, rfl, Told.fin A1 sa sb (.inl (by omega))⟩⟩
      refine wp_no (by simp [f2]) ?_
      have i3 : ia' + k + 1 < La.length := by omega
      have i4 : ia' <= ia' + k := by omega
      generalize out ++ (La.map (kas_item it)).toArray.extract ia' (ia' + k) = o2 at A1 ⊢
      generalize ia' + k = i2 at A1 R1 i3 i4 ⊢
    case' neg =>
      refine wp_no kp ?_
      have k0 : k = 0 := by omega
      rw [k0] at R1
      have i3 : ia' + 1 < La.length := b2
      have i4 : ia' <= ia' := Nat.le_refl _
      clear A1
      have A1 := b1
      generalize hi2 : ia' + 0 = i2 at R1
      rw [Nat.add_zero] at hi2
      rw [hi2] at i3 i4 A1 ⊢
      generalize out = o2 at A1 ⊢
    all_goals
      refine wpS_bind (el_of b3 ?_)
      have A2 := At.b1 o A1 sb b3 R1
      by_cases f3 : ib' + 1 = Lb.length
      · refine wp_yes (by simp [f3]) ?_
        exact wpS_pure ⟨⟨g2.1, g2.2.1, g2.2.2.1, g2.2.2.2⟩, .inl ⟨_, _, rfl, Told.fin A2 sa sb (.inr (by omega))⟩⟩
      refine wp_no (by simp [f3]) ?_
      refine wpS_bind (el_of (show i2 < La.length by omega) ?_)
      refine wpS_bind (gallopL_ok c o (by exact g2.1.trans hk) (aN _ (List.getElem_mem _)) bN (by rw [sz]; omega) (by rw [sz]; omega) sb fun m m1 m2 m3 => ?_)
      rw [sz] at m1 m3
      dsimp only
      have A3 := A2.bn sb m fun x hx y hy => by
        obtain ⟨j, j1, j2, rfl⟩ := mem_slice hx
        have := m2 j j1
        unfold Bey at this
        rw [if_pos rfl] at this
        exact Le.tr o (o.as _ _ this) (head_le o sa (by omega) y hy)
      have R3 : ∀ y ∈ Lb.drop (ib' + 1 + m), Le lt La[i2] y := fun y hy => by
        obtain ⟨j, j1, rfl⟩ := mem_dropN hy
        have := m3 (m + j) (by omega) (by omega)
        unfold Bey at this
        rw [if_pos rfl, <- Nat.add_assoc] at this
        exact this
      have i5 : ib' + 1 < Lb.length := by omega
      by_cases mp : m > 0
      case' pos =>
        refine wp_yes mp ?_
        by_cases f4 : ib' + 1 + m = Lb.length
        · refine wp_yes (by simp [f4]) ?_
          exact wpS_pure ⟨⟨g2.1, g2.2.1, g2.2.2.1, g2.2.2.2⟩, .inl ⟨_, _, rfl, Told.fin A3 sa sb (.inr (by omega))⟩⟩
        refine wp_no (by simp [f4]) ?_
        have j3 : ib' + 1 + m < Lb.length := by omega
        have j4 : ib' + 1 <= ib' + 1 + m := by omega
        generalize o2.push (kas_item it Lb[ib']) ++ (Lb.map (kas_item it)).toArray.extract (ib' + 1) (ib' + 1 + m) = o3 at A3 ⊢
        generalize ib' + 1 + m = j2 at A3 R3 j3 j4 ⊢
      case' neg =>
        refine wp_no mp ?_
        have m0 : m = 0 := by omega
        rw [m0] at R3
        have j3 : ib' + 1 < Lb.length := i5
        have j4 : ib' + 1 <= ib' + 1 := Nat.le_refl _
        clear A3
        have A3 := A2
        rw [Nat.add_zero] at R3
        generalize hj2 : ib' + 1 = j2 at A3 R3 j3 j4 ⊢
        rw [<- hj2] at j4
        generalize o2.push (kas_item it Lb[ib']) = o3 at A3 ⊢
      all_goals
        refine wpS_bind (el_of (show i2 < La.length by omega) ?_)
        have A4 := At.a1 o A3 sa (show i2 < La.length by omega) R3
        by_cases f5 : i2 + 1 + 1 = La.length
        · refine wp_yes (by simp [f5]) ?_
          exact wpS_pure ⟨⟨g2.1, g2.2.1, g2.2.2.1, g2.2.2.2⟩, .inl ⟨_, _, rfl, Told.last A4 sa sb hl f5⟩⟩
        refine wp_no (by simp [f5]) (wp_ite (fun _ => ?_) (fun _ => ?_))
        · exact wpS_pure ⟨⟨g2.1, g2.2.1, g2.2.2.1, g2.2.2.2⟩, .inr ⟨_, _, _, _, _, _, rfl, A4, by omega, j3, by omega⟩⟩
        · exact wpS_pure ⟨⟨g2.1, g2.2.1, g2.2.2.1, g2.2.2.2⟩, _, _, _, _, _, _, rfl, A4, by omega, j3, by omega⟩
end
end L2
namespace L2
open PySem PySem.W PyProof.Rows
section
variable {prog : Program} {w : World} {A : Around} {E : Value -> Shared -> Prop} {s : Shared} {κ : SortKind} {it : Array Keyed} {lt : Nat -> Nat -> Bool} {N : Nat}
structure MH (lt : Nat -> Nat -> Bool) (La Lb R : List Nat) (na nb : Nat) : Prop where
  p : ((La.take na ++ Lb.take nb) ++ R).Perm (La ++ Lb)
  s : R.Pairwise (Le lt)
  c : ∀ x ∈ La.take na ++ Lb.take nb, ∀ y ∈ R, Le lt x y
theorem MH.as {La Lb R : List Nat} {na nb : Nat} (m : MH lt La Lb R na nb) (sa : La.Pairwise (Le lt)) (j : Nat) (hj : j <= na) (h : ∀ x ∈ Lb.take nb, ∀ y ∈ (La.take na).drop j, Le lt x y) : MH lt La Lb ((La.take na).drop j ++ R) j nb := by
  have e : La.take j = (La.take na).take j := by rw [List.take_take, Nat.min_eq_left hj]
  have t : (La.take na).take j ++ (La.take na).drop j = La.take na := List.take_append_drop _ _
  have sd : ((La.take na).take j ++ (La.take na).drop j).Pairwise (Le lt) := by rw [t]; exact sa.sublist (List.take_sublist _ _)
  obtain ⟨d1, d2, d3⟩ := List.pairwise_append.mp sd
  refine ⟨?_, List.pairwise_append.mpr ⟨d2, m.s, fun x hx y hy => m.c x (List.mem_append_left _ (List.mem_of_mem_drop hx)) y hy⟩, fun x hx y hy => ?_⟩
  · refine List.Perm.trans ?_ m.p
    rw [e, <- List.append_assoc]
    refine List.Perm.append_right _ ?_
    conv => rhs; rw [<- t]
    rw [List.append_assoc, List.append_assoc]
    exact List.Perm.append_left _ List.perm_append_comm
  · rw [e] at hx
    rcases List.mem_append.mp hy with hy | hy
    · rcases List.mem_append.mp hx with z | z
      · exact d3 x z y hy
      · exact h x z y hy
    · refine m.c x ?_ y hy
      rcases List.mem_append.mp hx with z | z
      · exact List.mem_append_left _ (List.mem_of_mem_take z)
      · exact List.mem_append_right _ z
theorem MH.bs {La Lb R : List Nat} {na nb : Nat} (m : MH lt La Lb R na nb) (sb : Lb.Pairwise (Le lt)) (j : Nat) (hj : j <= nb) (h : ∀ x ∈ La.take na, ∀ y ∈ (Lb.take nb).drop j, Le lt x y) : MH lt La Lb ((Lb.take nb).drop j ++ R) na j := by
  have e : Lb.take j = (Lb.take nb).take j := by rw [List.take_take, Nat.min_eq_left hj]
  have t : (Lb.take nb).take j ++ (Lb.take nb).drop j = Lb.take nb := List.take_append_drop _ _
  have sd : ((Lb.take nb).take j ++ (Lb.take nb).drop j).Pairwise (Le lt) := by rw [t]; exact sb.sublist (List.take_sublist _ _)
  obtain ⟨d1, d2, d3⟩ := List.pairwise_append.mp sd
  refine ⟨?_, List.pairwise_append.mpr ⟨d2, m.s, fun x hx y hy => m.c x (List.mem_append_right _ (List.mem_of_mem_drop hx)) y hy⟩, fun x hx y hy => ?_⟩
  · refine List.Perm.trans ?_ m.p
    rw [e, <- List.append_assoc, List.append_assoc (La.take na), t]
  · rw [e] at hx
    rcases List.mem_append.mp hy with hy | hy
    · rcases List.mem_append.mp hx with z | z
      · exact h x z y hy
      · exact d3 x z y hy
    · refine m.c x ?_ y hy
      rcases List.mem_append.mp hx with z | z
      · exact List.mem_append_left _ z
      · exact List.mem_append_right _ (List.mem_of_mem_take z)
def Ah (lt : Nat -> Nat -> Bool) (it : Array Keyed) (La Lb : List Nat) (out : Array Keyed) (na nb : Nat) : Prop := ∃ R : List Nat, out.toList = R.reverse.map (kas_item it) /\ MH lt La Lb R na nb
theorem last_one {L : List Nat} {n : Nat} (h0 : 0 < n) (hn : n <= L.length) : (L.take n).drop (n - 1) = [L[n - 1]] := by
  rw [List.drop_take, List.drop_eq_getElem_cons (show n - 1 < L.length by omega), show n - (n - 1) = 1 by omega]
  rfl
theorem last_ge (o : Ord lt) {L : List Nat} {n : Nat} (sL : L.Pairwise (Le lt)) (h0 : 0 < n) (hn : n <= L.length) : ∀ x ∈ L.take n, Le lt x L[n - 1] := by
  intro x hx
  obtain ⟨i, hi, rfl⟩ := List.getElem_of_mem hx
  rw [List.length_take] at hi
  rw [List.getElem_take]
  by_cases e : i = n - 1
  · subst e; exact o.rf _
  · exact List.pairwise_iff_getElem.mp sL _ _ (by omega) (by omega) (by omega)
theorem Ah.a1 {La Lb : List Nat} {out : Array Keyed} {na nb : Nat} (h : Ah lt it La Lb out na nb) (sa : La.Pairwise (Le lt)) (h0 : 0 < na) (hn : na <= La.length) (hle : ∀ x ∈ Lb.take nb, Le lt x La[na - 1]) : Ah lt it La Lb (out.push (kas_item it La[na - 1])) (na - 1) nb := by
  obtain ⟨R, e, m⟩ := h
  have := m.as sa (na - 1) (by omega) (by rw [last_one h0 hn]; intro x hx y hy; rw [List.mem_singleton.mp hy]; exact hle x hx)
  rw [last_one h0 hn] at this
  exact ⟨_, by rw [Array.toList_push, e]; simp, this⟩
theorem Ah.b1 {La Lb : List Nat} {out : Array Keyed} {na nb : Nat} (h : Ah lt it La Lb out na nb) (sb : Lb.Pairwise (Le lt)) (h0 : 0 < nb) (hn : nb <= Lb.length) (hle : ∀ x ∈ La.take na, Le lt x Lb[nb - 1]) : Ah lt it La Lb (out.push (kas_item it Lb[nb - 1])) na (nb - 1) := by
  obtain ⟨R, e, m⟩ := h
  have := m.bs sb (nb - 1) (by omega) (by rw [last_one h0 hn]; intro x hx y hy; rw [List.mem_singleton.mp hy]; exact hle x hx)
  rw [last_one h0 hn] at this
  exact ⟨_, by rw [Array.toList_push, e]; simp, this⟩
theorem Ah.an {La Lb : List Nat} {out : Array Keyed} {na nb : Nat} (h : Ah lt it La Lb out na nb) (sa : La.Pairwise (Le lt)) (j : Nat) (hj : j <= na) (hle : ∀ x ∈ Lb.take nb, ∀ y ∈ (La.take na).drop j, Le lt x y) : Ah lt it La Lb (out ++ ((La.map (kas_item it)).toArray.extract j na).reverse) j nb := by
  obtain ⟨R, e, m⟩ := h
  exact ⟨_, by simp [e, List.drop_take, List.map_take, List.map_drop], m.as sa j hj hle⟩
theorem Ah.bn {La Lb : List Nat} {out : Array Keyed} {na nb : Nat} (h : Ah lt it La Lb out na nb) (sb : Lb.Pairwise (Le lt)) (j : Nat) (hj : j <= nb) (hle : ∀ x ∈ La.take na, ∀ y ∈ (Lb.take nb).drop j, Le lt x y) : Ah lt it La Lb (out ++ ((Lb.map (kas_item it)).toArray.extract j nb).reverse) na j := by
  obtain ⟨R, e, m⟩ := h
  exact ⟨_, by simp [e, List.drop_take, List.map_take, List.map_drop], m.bs sb j hj hle⟩
theorem Told.hi {La Lb : List Nat} {out : Array Keyed} {na nb : Nat} (h : Ah lt it La Lb out na nb) (sa : La.Pairwise (Le lt)) (sb : Lb.Pairwise (Le lt)) (z : na = 0 \/ nb = 0) :
    Told lt it La Lb ((La.map (kas_item it)).toArray.extract 0 na ++ (Lb.map (kas_item it)).toArray.extract 0 nb ++ out.reverse) := by
  obtain ⟨R, e, m⟩ := h
  refine ⟨(La.take na ++ Lb.take nb) ++ R, by simp [e, List.map_take], m.p, List.pairwise_append.mpr ⟨?_, m.s, m.c⟩⟩
  rcases z with z | z
  · rw [z, List.take_zero, List.nil_append]; exact sb.sublist (List.take_sublist _ _)
  · rw [z, List.take_zero, List.append_nil]; exact sa.sublist (List.take_sublist _ _)
theorem Told.first {La Lb : List Nat} {out : Array Keyed} {na nb : Nat} (h : Ah lt it La Lb out na nb) (sa : La.Pairwise (Le lt)) (sb : Lb.Pairwise (Le lt)) (z : ∀ x ∈ Lb.take nb, ∀ y ∈ La, Le lt x y) :
    Told lt it La Lb ((Lb.map (kas_item it)).toArray.extract 0 nb ++ (La.map (kas_item it)).toArray.extract 0 na ++ out.reverse) := by
  obtain ⟨R, e, m⟩ := h
  refine ⟨(Lb.take nb ++ La.take na) ++ R, by simp [e, List.map_take], (List.Perm.append_right _ List.perm_append_comm).trans m.p, List.pairwise_append.mpr ⟨List.pairwise_append.mpr ⟨sb.sublist (List.take_sublist _ _), sa.sublist (List.take_sublist _ _), fun x hx y hy => z x hx y (List.mem_of_mem_take hy)⟩, m.s, fun x hx y hy => m.c x ?_ y hy⟩⟩
  rcases List.mem_append.mp hx with z | z
  · exact List.mem_append_right _ z
  · exact List.mem_append_left _ z
theorem mergeHi_ok {La Lb : List Nat} {st : SortSt} {Q : Array Keyed -> SortSt -> Prop} (c : Cmp prog w A κ it lt N s) (o : Ord lt) (hk : kindOf st = κ) (aN : ∀ x ∈ La, x < N) (bN : ∀ x ∈ Lb, x < N) (sa : La.Pairwise (Le lt)) (sb : Lb.Pairwise (Le lt)) (ha : 0 < La.length) (hb : 0 < Lb.length)
    (hf : ∀ y ∈ La, Le lt Lb[0] y) (hl : ∀ x ∈ Lb, Le lt x La[La.length - 1]) (h : ∀ res st', Gs st st' -> Told lt it La Lb res -> Q res st') : wpS (model prog w) A E s (mergeHi' (La.map (kas_item it)).toArray (Lb.map (kas_item it)).toArray) Q st := by
  refine wpS_bind ?_
  refine wpS_lift (wpAny_rule ⟨rfl, ?_⟩)
  dsimp only
  have sz : ∀ L : List Nat, (L.map (kas_item it)).toArray.size = L.length := fun L => by simp
  simp only [sz]
  refine wpS_bind (el_of (show La.length - 1 < La.length by omega) ?_)
  have hf1 : ∀ x ∈ Lb.take 1, ∀ y ∈ La, Le lt x y := fun x hx y hy => by
    rw [show Lb.take 1 = [Lb[0]] by have := take_one (L := Lb) hb; simpa using this] at hx
    rw [List.mem_singleton.mp hx]
    exact hf y hy
  have at0 : Ah lt it La Lb #[kas_item it La[La.length - 1]] (La.length - 1) Lb.length := by
    have m0 : MH lt La Lb [] La.length Lb.length := ⟨by simp, .nil, fun x _ y hy => nomatch hy⟩
    exact Ah.a1 (it := it) (out := #[]) ⟨[], rfl, m0⟩ sa ha (Nat.le_refl _) fun x hx => hl x (List.mem_of_mem_take hx)
  by_cases e1 : La.length - 1 = 0
  · refine wp_yes (by simp [e1]) ?_
    exact wpS_pure (h _ _ (Gs.refl _) (Told.hi at0 sa sb (.inl e1)))
  refine wp_no (by simpa using e1) ?_
  by_cases e2 : Lb.length = 1
  · refine wp_yes (by simp [e2]) ?_
    exact wpS_pure (h _ _ (Gs.refl _) (Told.first at0 sa sb (by rw [e2]; exact hf1)))
  refine wp_no (by simpa using e2) ?_
  refine wpS_bind (wpS_get ?_)
  refine wpS_bind (wpS_mono (wpS_forRange
    (I := fun x r st' => Gs st st' /\ ∃ na nb out mg, r = (none, na, nb, out, mg) /\ Ah lt it La Lb out na nb /\ 0 < na /\ na <= La.length /\ 1 < nb /\ nb <= Lb.length /\ na + nb + x + 1 <= La.length + Lb.length)
    (Q := fun r st' => Gs st st' /\ ∃ res z, r = (some res, z) /\ Told lt it La Lb res) ?_ ?_ ⟨Gs.refl _, _, _, _, _, rfl, at0, by omega, by omega, by omega, by omega, by omega⟩) ?_)
  rotate_left
  · rintro r st' ⟨_, na, nb, out, mg, rfl, a1, a2, a3, a4, a5, a6⟩
    exfalso
    omega
  · rintro r st' ⟨g, res, z, rfl, t⟩
    exact wpS_pure (h _ _ g t)
  rintro x r st1 _ hx ⟨g1, na, nb, out, mg, rfl, a1, a2, a3, a4, a5, a6⟩
  dsimp only
  refine wpS_bind (wpS_mono (wpS_forRange
    (I := fun y r st' => st' = st1 /\ ∃ na' nb' out' ac bc, r = (none, na', nb', out', ac, bc) /\ Ah lt it La Lb out' na' nb' /\ 0 < na' /\ na' <= La.length /\ 1 < nb' /\ nb' <= Lb.length /\ na' + nb' + y <= na + nb)
    (Q := fun r st' => st' = st1 /\ ((∃ res z, r = (some res, z) /\ Told lt it La Lb res) \/ ∃ na' nb' out' ac bc, r = (none, na', nb', out', ac, bc) /\ Ah lt it La Lb out' na' nb' /\ 0 < na' /\ na' <= La.length /\ 1 < nb' /\ nb' <= Lb.length /\ na' + nb' + 1 <= na + nb)) ?_ ?_ ⟨rfl, _, _, _, _, _, rfl, a1, a2, a3, a4, a5, by omega⟩) ?_)
  · rintro y r st' _ hy ⟨rfl, na', nb', out, ac, bc, rfl, b1, b2, b3, b4, b5, b6⟩
    dsimp only
    refine wpS_bind (el_of (show nb' - 1 < Lb.length by omega) (wpS_bind (el_of (show na' - 1 < La.length by omega) (wpS_bind (lt_of c (g1.1.trans hk) (bN _ (List.getElem_mem _)) (aN _ (List.getElem_mem _)) ?_)))))
    cases w1 : lt Lb[nb' - 1] La[na' - 1] with
    | true =>
      dsimp only
      refine wp_yes rfl ?_
      refine wpS_bind (el_of (show na' - 1 < La.length by omega) ?_)
      have n1 := Ah.a1 b1 sa b2 b3 fun z hz => Le.tr o (last_ge o sb (by omega) b5 z hz) (o.as _ _ w1)
      by_cases f1 : na' - 1 = 0
      · refine wp_yes (by simp [f1]) ?_
        exact wpS_pure ⟨rfl, .inl ⟨_, _, rfl, Told.hi n1 sa sb (.inl f1)⟩⟩
      · refine wp_no (by simpa using f1) (wp_ite (fun _ => ?_) (fun _ => ?_))
        · exact wpS_pure ⟨rfl, .inr ⟨_, _, _, _, _, rfl, n1, by omega, by omega, b4, b5, by omega⟩⟩
        · exact wpS_pure ⟨rfl, _, _, _, _, _, rfl, n1, by omega, by omega, b4, b5, by omega⟩
    | false =>
      dsimp only
      refine wp_no (by decide) ?_
      refine wpS_bind (el_of (show nb' - 1 < Lb.length by omega) ?_)
      have n1 := Ah.b1 b1 sb (by omega) b5 fun z hz => Le.tr o (last_ge o sa b2 b3 z hz) w1
      by_cases f1 : nb' - 1 = 1
      · refine wp_yes (by simp [f1]) ?_
        exact wpS_pure ⟨rfl, .inl ⟨_, _, rfl, Told.first n1 sa sb (by rw [f1]; exact hf1)⟩⟩
      · refine wp_no (by simpa using f1) (wp_ite (fun _ => ?_) (fun _ => ?_))
        · exact wpS_pure ⟨rfl, .inr ⟨_, _, _, _, _, rfl, n1, b2, b3, by omega, by omega, by omega⟩⟩
        · exact wpS_pure ⟨rfl, _, _, _, _, _, rfl, n1, b2, b3, by omega, by omega, by omega⟩
  · rintro r st' ⟨_, na', nb', out, ac, bc, rfl, b1, b2, b3, b4, b5, b6⟩
    exfalso
    omega
  rintro r st' ⟨rfl, z⟩
  rcases z with ⟨res, z, rfl, t⟩ | ⟨na2, nb2, out2, ac, bc, rfl, b1, b2, b3, b4, b5, b6⟩
  · dsimp only
    exact wpS_pure ⟨g1, _, _, rfl, t⟩
  dsimp only
  refine wpS_bind (wpS_lift (wpAny_rule ⟨rfl, ?_⟩))
  refine wpS_bind (wpS_mono (wpS_forRange
    (I := fun y r st' => Gs st st' /\ ∃ na' nb' out' mg ac bc, r = (none, na', nb', out', mg, ac, bc) /\ Ah lt it La Lb out' na' nb' /\ 0 < na' /\ na' <= La.length /\ 1 < nb' /\ nb' <= Lb.length /\ na' + nb' + y + 1 <= na + nb)
    (Q := fun r st' => Gs st st' /\ ((∃ res z, r = (some res, z) /\ Told lt it La Lb res) \/ ∃ na' nb' out' mg ac bc, r = (none, na', nb', out', mg, ac, bc) /\ Ah lt it La Lb out' na' nb' /\ 0 < na' /\ na' <= La.length /\ 1 < nb' /\ nb' <= Lb.length /\ na' + nb' + 1 <= na + nb)) ?_ ?_ ⟨g1, _, _, _, _, _, _, rfl, b1, b2, b3, b4, b5, by omega⟩) ?_)
  rotate_left
  · rintro r st' ⟨_, na', nb', out, mg, ac, bc, rfl, b1, b2, b3, b4, b5, b6⟩
    exfalso
    omega
  · rintro r st' ⟨g2, z⟩
    rcases z with ⟨res, z, rfl, t⟩ | ⟨na3, nb3, out3, mg3, ac3, bc3, rfl, d1, d2, d3, d4, d5, d6⟩
    · dsimp only
      exact wpS_pure ⟨g2, _, _, rfl, t⟩
    · dsimp only
      refine wpS_bind (wpS_modify (wpS_pure ⟨⟨g2.1, g2.2.1, g2.2.2.1, g2.2.2.2⟩, _, _, _, _, rfl, d1, d2, d3, d4, d5, by omega⟩))
  clear b1 b2 b3 b4 b5 b6 a1
  rintro y r st2 _ hy ⟨g2, na', nb', out, mg, ac, bc, rfl, b1, b2, b3, b4, b5, b6⟩
  dsimp only
  refine wp_ite (fun _ => ?_) (fun _ => ?_)
  all_goals
    refine wpS_bind (wpS_modify ?_)
    refine wpS_bind (el_of (show nb' - 1 < Lb.length by omega) ?_)
    refine wpS_bind (gallopL_ok c o (by exact g2.1.trans hk) (bN _ (List.getElem_mem _)) aN (by omega) (by omega) sa fun k k1 k2 k3 => ?_)
    dsimp only
    simp only [Nat.zero_add] at k2 k3
    have A1 := b1.an sa k k1 fun x hx y hy => by
      rw [List.drop_take] at hy
      obtain ⟨j, j1, j2, rfl⟩ := mem_slice hy
      have := k3 (k + j) (by omega) (by omega)
      unfold Bey at this
      rw [if_neg (by decide)] at this
      exact Le.tr o (last_ge o sb (by omega) b5 x hx) (o.as _ _ (by simpa using this))
    have R1 : ∀ x ∈ La.take k, Le lt x Lb[nb' - 1] := fun x hx => by
      obtain ⟨j, j1, j2, rfl⟩ := mem_slice (b := 0) (by simpa using hx)
      have := k2 j j1
      unfold Bey at this
      rw [if_neg (by decide)] at this
      rw [Nat.zero_add]
      simpa using this
    by_cases kp : na' - k > 0
    case' pos =>
      refine wp_yes kp ?_
      by_cases f2 : k = 0
      · refine wp_yes (by simp [f2]) ?_
        exact wpS_pure ⟨⟨g2.1, g2.2.1, g2.2.2.1, g2.2.2.2⟩, .inl ⟨_, _, rfl, Told.hi A1 sa sb (.inl f2)⟩⟩
      refine wp_no (by simpa using f2) ?_
      have i3 : 0 < k := by omega
      have i4 : k <= na' := k1
      generalize out ++ ((La.map (kas_item it)).toArray.extract k na').reverse = o2 at A1 ⊢
      generalize na' - k = ck
      clear k2 k3 kp f2
      generalize k = i2 at A1 R1 i3 i4 ⊢
    case' neg =>
      refine wp_no kp ?_
      have k0 : k = na' := by omega
      rw [k0] at R1
      have i3 : 0 < na' := b2
      have i4 : na' <= na' := Nat.le_refl _
      clear A1
      have A1 := b1
      rw [k0] at *
      clear k1 k2 k3 k0
      generalize out = o2 at A1 ⊢
      generalize na' - na' = ck
      obtain ⟨i2, ei2⟩ : ∃ i2, i2 = na' := ⟨_, rfl⟩
      rw [<- ei2] at A1 R1 i3 ⊢
      have i4 : i2 <= na' := by omega
    all_goals
      refine wpS_bind (el_of (show nb' - 1 < Lb.length by omega) ?_)
      have A2 := Ah.b1 A1 sb (by omega) b5 R1
      by_cases f3 : nb' - 1 = 1
      · refine wp_yes (by simp [f3]) ?_
        exact wpS_pure ⟨⟨g2.1, g2.2.1, g2.2.2.1, g2.2.2.2⟩, .inl ⟨_, _, rfl, Told.first A2 sa sb (by rw [f3]; exact hf1)⟩⟩
      refine wp_no (by simpa using f3) ?_
      refine wpS_bind (el_of (show i2 - 1 < La.length by omega) ?_)
      refine wpS_bind (gallopL_ok c o (by exact g2.1.trans hk) (aN _ (List.getElem_mem _)) bN (by omega) (by omega) sb fun m m1 m2 m3 => ?_)
      dsimp only
      simp only [Nat.zero_add] at m2 m3
      have A3 := A2.bn sb m m1 fun x hx y hy => by
        rw [List.drop_take] at hy
        obtain ⟨j, j1, j2, rfl⟩ := mem_slice hy
        have := m3 (m + j) (by omega) (by omega)
        unfold Bey at this
        rw [if_pos rfl] at this
        exact Le.tr o (last_ge o sa i3 (by omega) x hx) this
      have R3 : ∀ x ∈ Lb.take m, Le lt x La[i2 - 1] := fun x hx => by
        obtain ⟨j, j1, j2, rfl⟩ := mem_slice (b := 0) (by simpa using hx)
        have := m2 j j1
        unfold Bey at this
        rw [if_pos rfl] at this
        rw [Nat.zero_add]
        exact o.as _ _ this
      by_cases mp : nb' - 1 - m > 0
      case' pos =>
        refine wp_yes mp ?_
        by_cases f4 : m = 1
        · refine wp_yes (by simp [f4]) ?_
          exact wpS_pure ⟨⟨g2.1, g2.2.1, g2.2.2.1, g2.2.2.2⟩, .inl ⟨_, _, rfl, Told.first A3 sa sb (by rw [f4]; exact hf1)⟩⟩
        refine wp_no (by simpa using f4) ?_
        by_cases f5 : m = 0
        · refine wp_yes (by simp [f5]) ?_
          exact wpS_pure ⟨⟨g2.1, g2.2.1, g2.2.2.1, g2.2.2.2⟩, .inl ⟨_, _, rfl, Told.hi A3 sa sb (.inr f5)⟩⟩
        refine wp_no (by simpa using f5) ?_
        have j3 : 1 < m := by omega
        have j4 : m + 1 <= nb' := by omega
        generalize o2.push (kas_item it Lb[nb' - 1]) ++ ((Lb.map (kas_item it)).toArray.extract m (nb' - 1)).reverse = o3 at A3 ⊢
        generalize nb' - 1 - m = cm
        clear m2 m3 mp f4 f5
        generalize m = j2 at A3 R3 j3 j4 ⊢
      case' neg =>
        refine wp_no mp ?_
        have m0 : m = nb' - 1 := by omega
        rw [m0] at R3
        clear A3
        have A3 := A2
        generalize nb' - 1 - m = cm
        generalize o2.push (kas_item it Lb[nb' - 1]) = o3 at A3 ⊢
        obtain ⟨j2, ej2⟩ : ∃ j2, j2 = nb' - 1 := ⟨_, rfl⟩
        rw [<- ej2] at A3 R3 ⊢
        have j3 : 1 < j2 := by omega
        have j4 : j2 + 1 <= nb' := by omega
      all_goals
        refine wpS_bind (el_of (show i2 - 1 < La.length by omega) ?_)
        have A4 := Ah.a1 A3 sa i3 (by omega) R3
        by_cases f6 : i2 - 1 = 0
        · refine wp_yes (by simp [f6]) ?_
          exact wpS_pure ⟨⟨g2.1, g2.2.1, g2.2.2.1, g2.2.2.2⟩, .inl ⟨_, _, rfl, Told.hi A4 sa sb (.inl f6)⟩⟩
        refine wp_no (by simpa using f6) (wp_ite (fun _ => ?_) (fun _ => ?_))
        · exact wpS_pure ⟨⟨g2.1, g2.2.1, g2.2.2.1, g2.2.2.2⟩, .inr ⟨_, _, _, _, _, _, rfl, A4, by omega, by omega, j3, by omega, by omega⟩⟩
        · exact wpS_pure ⟨⟨g2.1, g2.2.1, g2.2.2.1, g2.2.2.2⟩, _, _, _, _, _, _, rfl, A4, by omega, by omega, j3, by omega, by omega⟩
end
end L2
namespace L2
open PySem PySem.W PyProof.Rows
section
variable {prog : Program} {w : World} {A : Around} {E : Value -> Shared -> Prop} {s : Shared} {κ : SortKind} {it : Array Keyed} {lt : Nat -> Nat -> Bool} {N : Nat}
theorem wpS_put {x st : SortSt} {Q : PUnit -> SortSt -> Prop} (h : Q ⟨⟩ x) : wpS (model prog w) A E s (set x : StateT SortSt Sem PUnit) Q st := by
  unfold wpS
  rw [StateT.run_set]
  exact wpAny_pure ⟨rfl, h⟩
theorem gallopS_ok {left : Bool} {k : Nat} {L X : List Nat} {base hint : Nat} {st : SortSt} {Q : Option Nat -> SortSt -> Prop} (c : Cmp prog w A κ it lt N s) (o : Ord lt) (hk : kindOf st = κ) (kN : k < N) (qN : ∀ x ∈ L, x < N) (hb : base + X.length <= L.length) (hs : ∀ j, j < X.length -> L.getD (base + j) 0 = X.getD j 0) (hh : hint < X.length) (sX : X.Pairwise (Le lt))
    (h : ∀ r, r <= X.length -> (∀ x ∈ X.take r, Bey lt left k x = true) -> (∀ x ∈ X.drop r, Bey lt left k x = false) -> Q (some r) st) :
    wpS (model prog w) A E s (gallop' left (kas_item it k) (L.map (kas_item it)).toArray base X.length hint) Q st := by
  have e : (L.map (kas_item it)).toArray = L.toArray.map (kas_item it) := by simp
  have g : ∀ i, L.toArray.getD i 0 = L.getD i 0 := fun i => by rw [Array.getD_eq_getD_getElem?, List.getD_eq_getElem?_getD]; simp
  rw [e]
  refine gallop_ok c hk kN (fun i hi => ?_) (by simpa using hb) hh (fun i j hij hj hB => ?_) (fun r r1 r2 r3 => h r r1 (fun x hx => ?_) (fun x hx => ?_))
  · rw [g]
    have hi' : i < L.length := by simpa using hi
    rw [List.getD_eq_getElem?_getD, List.getElem?_eq_getElem hi']
    exact qN _ (List.getElem_mem hi')
  · rw [g, hs _ (by omega)] at hB ⊢
    have lij : Le lt (X.getD i 0) (X.getD j 0) := by
      have h1 : i < X.length := by omega
      rw [List.getD_eq_getElem?_getD, List.getElem?_eq_getElem h1, List.getD_eq_getElem?_getD, List.getElem?_eq_getElem hj]
      by_cases e : i = j
      · subst e; exact o.rf _
      · exact List.pairwise_iff_getElem.mp sX _ _ h1 hj (by omega)
    unfold Bey at hB ⊢
    cases left with
    | true =>
      rw [if_pos rfl] at hB ⊢
      cases z : lt (X.getD i 0) k with
      | true => rfl
      | false => rw [Le.tr o (x := k) z lij] at hB; cases hB
    | false =>
      rw [if_neg (by decide)] at hB ⊢
      have hB' : Le lt (X.getD j 0) k := by simpa using hB
      have := Le.tr o lij hB'
      rw [this]
      rfl
  · obtain ⟨i, i1, i2, rfl⟩ := mem_slice (b := 0) (by simpa using hx)
    rw [Nat.zero_add] at i2 ⊢
    have := r2 i i1
    rw [g, hs _ i2] at this
    exact this
  · obtain ⟨i, i1, rfl⟩ := mem_dropN hx
    have := r3 (r + i) (by omega) i1
    rw [g, hs _ i1] at this
    exact this
theorem mid_of {α β : Type} (f : α -> β) (P B C : List α) (a b : Nat) (ha : a = P.length) (hb : b = P.length + B.length) : ((P ++ B ++ C).map f).toArray.extract a b = (B.map f).toArray := by
  subst ha hb
  apply Array.toList_inj.mp
  simp
theorem set_go {α : Type} (b : Nat) : ∀ (M P X Z : List α) (k : Nat), P.length = b + k -> X.length = M.length -> ((M.zipIdx k).foldl (fun (a : Array α) (p : α × Nat) => a.setIfInBounds (b + p.2) p.1) (P ++ X ++ Z).toArray) = (P ++ M ++ Z).toArray
  | [], P, X, Z, k, _, h => by
    have : X = [] := List.eq_nil_of_length_eq_zero (by simpa using h)
    subst this
    rfl
  | m :: M, P, X, Z, k, hp, h => by
    cases X with
    | nil => simp at h
    | cons x X =>
      rw [List.zipIdx_cons, List.foldl_cons]
      have e : (P ++ x :: X ++ Z).toArray.setIfInBounds (b + k) m = ((P ++ [m]) ++ X ++ Z).toArray := by
        apply Array.toList_inj.mp
        rw [Array.toList_setIfInBounds]
        show (P ++ x :: X ++ Z).set (b + k) m = P ++ [m] ++ X ++ Z
        rw [<- hp]
        simp
      show (M.zipIdx (k + 1)).foldl _ ((P ++ x :: X ++ Z).toArray.setIfInBounds (b + k) m) = _
      rw [e, set_go b M (P ++ [m]) X Z (k + 1) (by rw [List.length_append]; show P.length + 1 = _; omega) (by simpa using h)]
      simp
structure StAt (κ : SortKind) (it : Array Keyed) (st : SortSt) (L : List Nat) (pd : Array (Nat × Nat × Nat)) : Prop where
  k : kindOf st = κ
  a : arrOf st = (L.map (kas_item it)).toArray
  p : pendingOf st = pd
  f : failedOf st = none
theorem mergeAt_ok {i : Nat} {P X Y Z : List Nat} {pd : Array (Nat × Nat × Nat)} {pw pw2 : Nat} {st : SortSt} {Q : Bool -> SortSt -> Prop} (c : Cmp prog w A κ it lt N s) (o : Ord lt) (h0 : StAt κ it st (P ++ X ++ Y ++ Z) pd) (lN : ∀ x ∈ P ++ X ++ Y ++ Z, x < N)
    (p1 : pd[i]? = some (P.length, X.length, pw)) (p2 : pd[i + 1]? = some (P.length + X.length, Y.length, pw2)) (hX : 0 < X.length) (hY : 0 < Y.length) (sX : X.Pairwise (Le lt)) (sY : Y.Pairwise (Le lt))
    (h : ∀ st' W, StAt κ it st' (P ++ W ++ Z) ((pd.setIfInBounds i (P.length, X.length + Y.length, pw)).eraseIdxIfInBounds (i + 1)) -> W.Perm (X ++ Y) -> W.Pairwise (Le lt) -> Q true st') : wpS (model prog w) A E s (mergeAt' i) Q st := by
  rcases st with ⟨kd, ar, pn, gl, fl⟩
  have ek : kd = κ := h0.k
  have ea : ar = ((P ++ X ++ Y ++ Z).map (kas_item it)).toArray := h0.a
  have ep : pn = pd := h0.p
  have ef : fl = none := h0.f
  subst ek ea ep ef
  refine wpS_bind (wpS_get ?_)
  have hL : ∀ j, j < Y.length -> (P ++ X ++ Y ++ Z).getD (P.length + X.length + j) 0 = Y.getD j 0 := fun j hj => by
    rw [List.getD_eq_getElem?_getD, List.getD_eq_getElem?_getD, List.append_assoc, List.append_assoc, List.getElem?_append_right (by omega), List.getElem?_append_right (by omega), List.getElem?_append_left (by omega)]
    congr 2
    omega
  have hL2 : ∀ j, j < X.length -> (P ++ X ++ Y ++ Z).getD (P.length + j) 0 = X.getD j 0 := fun j hj => by
    rw [List.getD_eq_getElem?_getD, List.getD_eq_getElem?_getD, List.append_assoc, List.append_assoc, List.getElem?_append_right (by omega), List.getElem?_append_left (by omega)]
    congr 2
    omega
  have ll : (P ++ X ++ Y ++ Z).length = P.length + X.length + Y.length + Z.length := by simp; omega
  have gE : ∀ (L : List Nat) (i : Nat) (h : i < L.length), L[i] = L.getD i 0 := fun L i h => by rw [List.getD_eq_getElem?_getD, List.getElem?_eq_getElem h]; rfl
  have xN : ∀ x ∈ X, x < N := fun x hx => lN x (by simp [hx])
  have yN : ∀ x ∈ Y, x < N := fun x hx => lN x (by simp [hx])
  dsimp only
  rw [p1, p2]
  dsimp only
  refine wpS_bind (wpS_put ?_)
  refine wpS_bind (el_of (show P.length + X.length < (P ++ X ++ Y ++ Z).length by omega) ?_)
  have y0 : (P ++ X ++ Y ++ Z)[P.length + X.length]'(by omega) = Y[0] := by
    rw [gE, gE, <- hL 0 hY, Nat.add_zero]
  rw [y0]
  refine wpS_bind (gallopS_ok c o (by exact h0.k) (yN _ (List.getElem_mem _)) lN (by omega) hL2 hX sX fun k k1 k2 k3 => ?_)
  dsimp only
  have X1 : ∀ x ∈ X.take k, Le lt x Y[0] := fun x hx => by
    have := k2 x hx
    unfold Bey at this
    rw [if_neg (by decide)] at this
    simpa using this
  have X2 : ∀ x ∈ X.drop k, Le lt Y[0] x := fun x hx => by
    have := k3 x hx
    unfold Bey at this
    rw [if_neg (by decide)] at this
    exact o.as _ _ (by simpa using this)
  have Y0 : ∀ y ∈ Y, Le lt Y[0] y := fun y hy => head_le o sY hY y (by simpa using hy)
  by_cases f1 : X.length - k = 0
  · refine wp_yes (by simp [f1]) (wpS_pure (h _ (X ++ Y) ⟨h0.k, ?_, ?_, h0.f⟩ (List.Perm.refl _) ?_))
    · rw [<- List.append_assoc]
    · rfl
    · refine List.pairwise_append.mpr ⟨sX, sY, fun x hx y hy => Le.tr o (X1 x ?_) (Y0 y hy)⟩
      rw [List.take_of_length_le (by omega)]
      exact hx
  refine wp_no (by simpa using f1) ?_
  have kl : k < X.length := by omega
  refine wpS_bind (el_of (show P.length + k + (X.length - k) - 1 < (P ++ X ++ Y ++ Z).length by omega) ?_)
  have xl : (P ++ X ++ Y ++ Z)[P.length + k + (X.length - k) - 1]'(by omega) = X[X.length - 1] := by
    rw [gE, gE, <- hL2 (X.length - 1) (by omega)]
    congr 1
    omega
  rw [xl]
  refine wpS_bind (gallopS_ok c o (by exact h0.k) (xN _ (List.getElem_mem _)) lN (by omega) hL (show Y.length - 1 < Y.length by omega) sY fun m m1 m2 m3 => ?_)
  dsimp only
  have Y1 : ∀ y ∈ Y.take m, Le lt y X[X.length - 1] := fun y hy => by
    have := m2 y hy
    unfold Bey at this
    rw [if_pos rfl] at this
    exact o.as _ _ this
  have Y2 : ∀ y ∈ Y.drop m, Le lt X[X.length - 1] y := fun y hy => by
    have := m3 y hy
    unfold Bey at this
    rw [if_pos rfl] at this
    exact this
  have XL : ∀ x ∈ X, Le lt x X[X.length - 1] := fun x hx => last_ge o sX hX (Nat.le_refl _) x (by simpa using hx)
  by_cases f2 : m = 0
  · refine wp_yes (by simp [f2]) (wpS_pure (h _ (X ++ Y) ⟨h0.k, ?_, ?_, h0.f⟩ (List.Perm.refl _) ?_))
    · rw [<- List.append_assoc]
    · rfl
    · refine List.pairwise_append.mpr ⟨sX, sY, fun x hx y hy => Le.tr o (XL x hx) (Y2 y ?_)⟩
      rw [f2]
      exact hy
  refine wp_no (by simpa using f2) ?_
  have xe : ((P ++ X ++ Y ++ Z).map (kas_item it)).toArray.extract (P.length + k) (P.length + X.length) = ((X.drop k).map (kas_item it)).toArray := by
    have e : P ++ X ++ Y ++ Z = (P ++ X.take k) ++ X.drop k ++ (Y ++ Z) := by
      simp only [List.append_assoc]
      rw [<- List.append_assoc (X.take k), List.take_append_drop]
    rw [e]
    exact mid_of _ _ _ _ _ _ (by rw [List.length_append, List.length_take]; omega) (by rw [List.length_append, List.length_take, List.length_drop]; omega)
  have ye : ((P ++ X ++ Y ++ Z).map (kas_item it)).toArray.extract (P.length + X.length) (P.length + X.length + m) = ((Y.take m).map (kas_item it)).toArray := by
    have e : P ++ X ++ Y ++ Z = (P ++ X) ++ Y.take m ++ (Y.drop m ++ Z) := by
      simp only [List.append_assoc]
      rw [<- List.append_assoc (Y.take m), List.take_append_drop]
    rw [e]
    exact mid_of _ _ _ _ _ _ (by rw [List.length_append]) (by rw [List.length_append, List.length_take]; omega)
  rw [xe, ye]
  have dl : (X.drop k).length = X.length - k := List.length_drop
  have tl : (Y.take m).length = m := by rw [List.length_take]; omega
  have t0 : (Y.take m)[0]'(by omega) = Y[0] := List.getElem_take
  have d9 : (X.drop k)[(X.drop k).length - 1]'(by omega) = X[X.length - 1] := by
    rw [List.getElem_drop]
    congr 1
    omega
  have fin : ∀ (res : Array Keyed) (st' : SortSt), Gs (SortSt.mk' kd ((P ++ X ++ Y ++ Z).map (kas_item it)).toArray ((pn.setIfInBounds i (P.length, X.length + Y.length, pw)).eraseIdxIfInBounds (i + 1)) gl none) st' -> Told lt it (X.drop k) (Y.take m) res ->
      wpS (model prog w) A E s (modify (fun s => SortSt.mk' (kindOf s) (res.toList.zipIdx.foldl (fun (a : Array Keyed) (x : Keyed × Nat) => match x with | (p, j) => a.setIfInBounds (P.length + k + j) p) (arrOf s)) (pendingOf s) (gallopOf s) (failedOf s)) >>= fun _ => get >>= fun s => pure (failedOf s).isNone) Q st' := by
    intro res st' g ⟨M, eM, pM, sM⟩
    rcases st' with ⟨kd', ar', pn', gl', fl'⟩
    obtain ⟨g1, g2, g3, g4⟩ := g
    have q1 : kd' = kd := g1
    have q2 : ar' = ((P ++ X ++ Y ++ Z).map (kas_item it)).toArray := g2
    have q3 : pn' = (pn.setIfInBounds i (P.length, X.length + Y.length, pw)).eraseIdxIfInBounds (i + 1) := g3
    have q4 : fl' = none := g4
    subst q1 q2 q3 q4
    refine wpS_bind (wpS_modify (wpS_bind (wpS_get (wpS_pure ?_))))
    refine h _ (X.take k ++ M ++ Y.drop m) ⟨rfl, ?_, rfl, rfl⟩ ?_ ?_
    · show res.toList.zipIdx.foldl _ ((P ++ X ++ Y ++ Z).map (kas_item it)).toArray = _
      have e : (P ++ X ++ Y ++ Z).map (kas_item it) = (P ++ X.take k).map (kas_item it) ++ (X.drop k ++ Y.take m).map (kas_item it) ++ (Y.drop m ++ Z).map (kas_item it) := by
        rw [<- List.map_append, <- List.map_append]
        congr 1
        simp only [List.append_assoc]
        rw [<- List.append_assoc (X.take k), List.take_append_drop, <- List.append_assoc (Y.take m), List.take_append_drop]
      rw [eM, e]
      have := set_go (P.length + k) (M.map (kas_item it)) ((P ++ X.take k).map (kas_item it)) ((X.drop k ++ Y.take m).map (kas_item it)) ((Y.drop m ++ Z).map (kas_item it)) 0 (by rw [List.length_map, List.length_append, List.length_take]; omega) (by rw [List.length_map, List.length_map, pM.length_eq])
      refine Eq.trans this ?_
      congr 1
      rw [<- List.map_append, <- List.map_append]
      congr 1
      simp only [List.append_assoc]
    · have : (X.take k ++ M ++ Y.drop m).Perm (X.take k ++ (X.drop k ++ Y.take m) ++ Y.drop m) := List.Perm.append_right _ (List.Perm.append_left _ pM)
      refine this.trans ?_
      rw [<- List.append_assoc, List.take_append_drop, List.append_assoc, List.take_append_drop]
    · have hM : ∀ z ∈ M, z ∈ X.drop k \/ z ∈ Y.take m := fun z hz => List.mem_append.mp (pM.mem_iff.mp hz)
      have sY' : (Y.take m ++ Y.drop m).Pairwise (Le lt) := by rw [List.take_append_drop]; exact sY
      have sX' : (X.take k ++ X.drop k).Pairwise (Le lt) := by rw [List.take_append_drop]; exact sX
      refine List.pairwise_append.mpr ⟨List.pairwise_append.mpr ⟨sX.sublist (List.take_sublist _ _), sM, fun x hx z hz => ?_⟩, sY.sublist (List.drop_sublist _ _), fun z hz y hy => ?_⟩
      · rcases hM z hz with hz | hz
        · exact (List.pairwise_append.mp sX').2.2 x hx z hz
        · exact Le.tr o (X1 x hx) (Y0 z (List.mem_of_mem_take hz))
      · rcases List.mem_append.mp hz with hz | hz
        · exact Le.tr o (XL z (List.mem_of_mem_take hz)) (Y2 y hy)
        · rcases hM z hz with hz | hz
          · exact Le.tr o (XL z (List.mem_of_mem_drop hz)) (Y2 y hy)
          · exact (List.pairwise_append.mp sY').2.2 z hz y hy
  refine wp_ite (fun _ => ?_) (fun _ => ?_)
  · refine wpS_bind (mergeLo_ok c o (by exact h0.k) (fun x hx => xN x (List.mem_of_mem_drop hx)) (fun x hx => yN x (List.mem_of_mem_take hx)) (sX.sublist (List.drop_sublist _ _)) (sY.sublist (List.take_sublist _ _)) (by omega) (by omega) ?_ ?_ fun res st' g tt => ?_)
    · rw [t0]; exact X2
    · intro x hx y hy
      have e : (X.drop k).drop ((X.drop k).length - 1) = [X[X.length - 1]] := by
        rw [List.drop_eq_getElem_cons (show (X.drop k).length - 1 < (X.drop k).length by omega), d9]
        congr 1
        exact List.drop_eq_nil_of_le (by omega)
      rw [e] at hy
      rw [List.mem_singleton.mp hy]
      exact Y1 x hx
    · exact fin res st' g tt
  · refine wpS_bind (mergeHi_ok c o (by exact h0.k) (fun x hx => xN x (List.mem_of_mem_drop hx)) (fun x hx => yN x (List.mem_of_mem_take hx)) (sX.sublist (List.drop_sublist _ _)) (sY.sublist (List.take_sublist _ _)) (by omega) (by omega) ?_ ?_ fun res st' g tt => ?_)
    · rw [t0]; exact X2
    · rw [d9]; exact Y1
    · exact fin res st' g tt
end
end L2
namespace L2
open PySem PySem.W PyProof.Rows
section
variable {prog : Program} {w : World} {A : Around} {E : Value -> Shared -> Prop} {s : Shared} {κ : SortKind} {it : Array Keyed} {lt : Nat -> Nat -> Bool} {N : Nat}
structure StP (κ : SortKind) (it : Array Keyed) (st : SortSt) (p : Array Nat) (pd : Array (Nat × Nat × Nat)) : Prop where
  k : kindOf st = κ
  a : arrOf st = p.map (kas_item it)
  p : pendingOf st = pd
  f : failedOf st = none
def UpF (lt : Nat -> Nat -> Bool) (p : Array Nat) (lo n : Nat) : Prop := ∀ i j, lo <= i -> i <= j -> j < lo + n -> lt (p.getD j 0) (p.getD i 0) = false
theorem ltAt_ok {i j : Nat} {p : Array Nat} {pd : Array (Nat × Nat × Nat)} {st : SortSt} {Q : Option Bool -> SortSt -> Prop} (c : Cmp prog w A κ it lt N s) (B : PB N p) (S : StP κ it st p pd) (hi : i < N) (hj : j < N) (h : Q (some (lt (p.getD i 0) (p.getD j 0))) st) : wpS (model prog w) A E s (ltAt' i j) Q st := by
  rw [ltAt'_eq]
  refine wpS_bind (wpS_get ?_)
  show wpS _ _ _ _ (elem' (arrOf st) i >>= fun x => elem' (arrOf st) j >>= fun y => lt' x y) Q st
  rw [S.a]
  refine wpS_bind (elem_of (by rw [B.size]; exact hi) (wpS_bind (elem_of (by rw [B.size]; exact hj) ?_)))
  exact lt_of c S.k (B.lt hi) (B.lt hj) h
theorem move_ok {k l : Nat} {p : Array Nat} {pd : Array (Nat × Nat × Nat)} {st : SortSt} {Q : Unit -> SortSt -> Prop} (S : StP κ it st p pd) (h : ∀ st', StP κ it st' (bubble p k (k - l)) pd -> Q () st') : wpS (model prog w) A E s (moveDown' k l) Q st := by
  rw [moveDown'_eq]
  refine wpS_modify (h _ ⟨S.k, ?_, S.p, S.f⟩)
  show bubble (arrOf st) k (k - l) = _
  rw [S.a]
  exact kas_swaps_map (kas_item it) (fun i => k - i) (fun i => k - i - 1) _ p
theorem rev_ok {i j : Nat} {p : Array Nat} {pd : Array (Nat × Nat × Nat)} {st : SortSt} {Q : Unit -> SortSt -> Prop} (S : StP κ it st p pd) (h : ∀ st', StP κ it st' (kas_rev p i j) pd -> Q () st') : wpS (model prog w) A E s (reverseSlice' i j) Q st := by
  rw [reverseSlice'_eq]
  refine wpS_modify (h _ ⟨S.k, ?_, S.p, S.f⟩)
  show mirror (arrOf st) i j ((j - i) / 2) = _
  rw [S.a]
  exact kas_swaps_map (kas_item it) (fun k => i + k) (fun k => j - 1 - k) _ p
theorem ins_up (o : Ord lt) {p : Array Nat} {lo k l : Nat} (B : PB N p) (hk : lo + k < N) (hl : l <= k) (h : UpF lt p lo k) (h1 : ∀ i, i < l -> Le lt (p.getD (lo + i) 0) (p.getD (lo + k) 0)) (h2 : ∀ i, l <= i -> i < k -> Le lt (p.getD (lo + k) 0) (p.getD (lo + i) 0)) :
    UpF lt (bubble p (lo + k) (lo + k - (lo + l))) lo (k + 1) := by
  intro i j hi hij hj
  rw [bub_at B hk (by omega), bub_at B hk (by omega)]
  by_cases a : j = lo + l
  · rw [if_pos a]
    by_cases b : i = lo + l
    · rw [if_pos b]; exact o.rf _
    · rw [if_neg b, if_neg (by omega)]
      have := h1 (i - lo) (by omega)
      rw [show lo + (i - lo) = i by omega] at this
      exact this
  · rw [if_neg a]
    by_cases b : lo + l < j /\ j <= lo + k
    · rw [if_pos b]
      by_cases d : i = lo + l
      · rw [if_pos d]
        have := h2 (j - 1 - lo) (by omega) (by omega)
        rw [show lo + (j - 1 - lo) = j - 1 by omega] at this
        exact this
      · rw [if_neg d]
        by_cases e : lo + l < i /\ i <= lo + k
        · rw [if_pos e]; exact h _ _ (by omega) (by omega) (by omega)
        · rw [if_neg e]; exact h _ _ (by omega) (by omega) (by omega)
    · rw [if_neg b]
      rw [if_neg (by omega), if_neg (by omega)]
      exact h _ _ hi hij (by omega)
theorem binary_ok {lo n ok : Nat} {p : Array Nat} {pd : Array (Nat × Nat × Nat)} {st : SortSt} {Q : Bool -> SortSt -> Prop} (c : Cmp prog w A κ it lt N s) (o : Ord lt) (B : PB N p) (S : StP κ it st p pd) (hn : lo + n <= N) (h1 : 1 <= n) (hok : ok <= n) (u : UpF lt p lo ok)
    (h : ∀ st' p', StP κ it st' p' pd -> PB N p' -> UpF lt p' lo n -> (∀ i, i < lo -> p'.getD i 0 = p.getD i 0) -> Q true st') : wpS (model prog w) A E s (binarySort' lo n ok) Q st := by
  refine wpS_bind (wpS_mono (wpS_forRange
    (I := fun k r st' => r = (none, ()) /\ ∃ p', StP κ it st' p' pd /\ PB N p' /\ UpF lt p' lo k /\ (∀ i, i < lo -> p'.getD i 0 = p.getD i 0))
    (Q := fun r st' => r = (none, ()) /\ ∃ p', StP κ it st' p' pd /\ PB N p' /\ UpF lt p' lo n /\ (∀ i, i < lo -> p'.getD i 0 = p.getD i 0)) ?_ ?_ ⟨rfl, p, S, B, ?_, fun _ _ => rfl⟩) ?_)
  · rintro k r st' hk1 hk2 ⟨rfl, p', S', B', u', e'⟩
    refine wpS_bind (wpS_mono (wpS_forRange
      (I := fun x r st'' => st'' = st' /\ ∃ l m, r = (none, l, m) /\ l <= m /\ m <= k /\ m - l + x <= k /\ (∀ i, i < l -> Le lt (p'.getD (lo + i) 0) (p'.getD (lo + k) 0)) /\ (∀ i, m <= i -> i < k -> Le lt (p'.getD (lo + k) 0) (p'.getD (lo + i) 0)))
      (Q := fun r st'' => st'' = st' /\ ∃ l m, r = (none, l, m) /\ l <= k /\ (∀ i, i < l -> Le lt (p'.getD (lo + i) 0) (p'.getD (lo + k) 0)) /\ (∀ i, l <= i -> i < k -> Le lt (p'.getD (lo + k) 0) (p'.getD (lo + i) 0))) ?_ ?_ ⟨rfl, 0, k, rfl, by omega, by omega, by omega, fun i hi => absurd hi (by omega), fun i h1 h2 => absurd h1 (by omega)⟩) ?_)
    · rintro x r st'' _ hx ⟨rfl, l, m, rfl, l1, l2, l3, l4, l5⟩
      dsimp only
      by_cases e : l >= m
      · refine wp_yes e (wpS_pure ⟨rfl, l, m, rfl, by omega, l4, fun i h1 h2 => l5 i (by omega) h2⟩)
      refine wp_no e (wpS_bind (ltAt_ok c B' S' (by omega) (by omega) ?_))
      cases z : lt (p'.getD (lo + k) 0) (p'.getD (lo + (l + m) / 2) 0) with
      | true =>
        dsimp only
        refine wp_yes rfl (wpS_pure ⟨rfl, l, (l + m) / 2, rfl, by omega, by omega, by omega, l4, fun i h1 h2 => Le.tr o (o.as _ _ z) (u' _ _ (by omega) (by omega) (by omega))⟩)
      | false =>
        dsimp only
        refine wp_no (by decide) (wpS_pure ⟨rfl, (l + m) / 2 + 1, m, rfl, by omega, by omega, by omega, fun i hi => Le.tr o (u' _ _ (by omega) (by omega) (by omega)) z, l5⟩)
    · rintro r st'' ⟨rfl, l, m, rfl, l1, l2, l3, l4, l5⟩
      exact ⟨rfl, l, m, rfl, by omega, l4, fun i h1 h2 => l5 i (by omega) h2⟩
    · rintro r st'' ⟨rfl, l, m, rfl, l1, l4, l5⟩
      dsimp only
      refine wpS_bind (move_ok S' fun st3 S3 => wpS_pure ⟨rfl, _, S3, B'.bub _ _, ins_up o B' (by omega) l1 u' l4 l5, fun i hi => ?_⟩)
      rw [bub_at B' (by omega) (by omega), if_neg (by omega), if_neg (by omega)]
      exact e' i hi
  · rintro r st' ⟨rfl, p', S', B', u', e'⟩
    exact ⟨rfl, p', S', B', by rw [show max (max ok 1) n = n by omega] at u'; exact u', e'⟩
  · intro i j hi hij hj
    by_cases e : i = j
    · subst e; exact o.rf _
    · exact u i j hi hij (by omega)
  · rintro r st' ⟨rfl, p', S', B', u', e'⟩
    exact wpS_pure (h st' p' S' B' u' e')
end
end L2
namespace L2
open PySem PySem.W PyProof.Rows
section
variable {prog : Program} {w : World} {A : Around} {E : Value -> Shared -> Prop} {s : Shared} {κ : SortKind} {it : Array Keyed} {lt : Nat -> Nat -> Bool} {N : Nat}
def DownF (lt : Nat -> Nat -> Bool) (p : Array Nat) (lo n : Nat) : Prop := ∀ i j, lo <= i -> i <= j -> j < lo + n -> lt (p.getD i 0) (p.getD j 0) = false
theorem up_moreF (o : Ord lt) {p : Array Nat} {lo n : Nat} (h : UpF lt p lo n) (n1 : 1 <= n) (c : lt (p.getD (lo + n) 0) (p.getD (lo + n - 1) 0) = false) : UpF lt p lo (n + 1) := by
  intro i j hi hij hj
  by_cases e : j = lo + n
  · subst e
    by_cases e2 : i = lo + n
    · subst e2; exact o.rf _
    · exact o.tr _ _ _ (h i (lo + n - 1) hi (by omega) (by omega)) c
  · exact h i j hi hij (by omega)
theorem down_moreF (o : Ord lt) {p : Array Nat} {lo n : Nat} (h : DownF lt p lo n) (n1 : 1 <= n) (c : lt (p.getD (lo + n - 1) 0) (p.getD (lo + n) 0) = false) : DownF lt p lo (n + 1) := by
  intro i j hi hij hj
  by_cases e : j = lo + n
  · subst e
    by_cases e2 : i = lo + n
    · subst e2; exact o.rf _
    · exact o.tr _ _ _ c (h i (lo + n - 1) hi (by omega) (by omega))
  · exact h i j hi hij (by omega)
theorem down_flatF {p : Array Nat} (B : PB N p) {lo n q : Nat} (hn : lo + n <= N) (hq : q + 1 <= n) (h : DownF lt p lo n) (fl : Flat lt p (lo + n - (q + 1)) (lo + n)) : DownF lt (kas_rev p (lo + n - (q + 1)) (lo + n)) lo n := by
  intro i j hi hij hj
  rw [rev_at B hn, rev_at B hn]
  by_cases c1 : lo + n - (q + 1) <= i /\ i < lo + n
  · rw [if_pos c1, if_pos (by omega)]
    exact fl _ _ (by omega) (by omega) (by omega) (by omega)
  · rw [if_neg c1]
    by_cases c2 : lo + n - (q + 1) <= j /\ j < lo + n
    · rw [if_pos c2]
      exact h _ _ hi (by omega) (by omega)
    · rw [if_neg c2]
      exact h _ _ hi hij hj
theorem down_revF {p : Array Nat} (B : PB N p) {lo n : Nat} (hn : lo + n <= N) (h : DownF lt p lo n) : UpF lt (kas_rev p lo (lo + n)) lo n := by
  intro i j hi hij hj
  rw [rev_at B hn, rev_at B hn, if_pos (by omega), if_pos (by omega)]
  exact h _ _ (by omega) (by omega) (by omega)
theorem count_ok {lo nrem : Nat} {p : Array Nat} {pd : Array (Nat × Nat × Nat)} {st : SortSt} {Q : Option Nat -> SortSt -> Prop} (c : Cmp prog w A κ it lt N s) (o : Ord lt) (B : PB N p) (S : StP κ it st p pd) (hn : lo + nrem <= N) (h1 : 1 <= nrem)
    (h : ∀ st' p' n, StP κ it st' p' pd -> PB N p' -> 1 <= n -> n <= nrem -> UpF lt p' lo n -> (∀ i, i < lo -> p'.getD i 0 = p.getD i 0) -> Q (some n) st') : wpS (model prog w) A E s (countRun' lo nrem) Q st := by
  refine wpS_bind (wpS_mono (wpS_forRange
    (I := fun x r st' => st' = st /\ r = (none, x) /\ UpF lt p lo x)
    (Q := fun r st' => st' = st /\ ∃ n, r = (none, n) /\ 1 <= n /\ n <= nrem /\ UpF lt p lo n /\ (n = nrem \/ lt (p.getD (lo + n) 0) (p.getD (lo + n - 1) 0) = true)) ?_ ?_ ⟨rfl, rfl, ?_⟩) ?_)
  · rintro x r st' hx1 hx2 ⟨rfl, rfl, u⟩
    refine wpS_bind (ltAt_ok c B S (by omega) (by omega) ?_)
    cases z : lt (p.getD (lo + x) 0) (p.getD (lo + x - 1) 0) with
    | true =>
      dsimp only
      exact wp_yes rfl (wpS_pure ⟨rfl, x, rfl, hx1, by omega, u, .inr z⟩)
    | false =>
      dsimp only
      exact wp_no (by decide) (wpS_pure ⟨rfl, rfl, up_moreF o u hx1 z⟩)
  · rintro r st' ⟨rfl, rfl, u⟩
    rw [show max 1 nrem = nrem by omega] at u ⊢
    exact ⟨rfl, nrem, rfl, h1, Nat.le_refl _, u, .inl rfl⟩
  · intro i j hi hij hj
    have : i = j := by omega
    subst this; exact o.rf _
  rintro r st' ⟨rfl, n, rfl, n1, n2, u, fin⟩
  dsimp only
  by_cases e1 : n = nrem
  · exact wp_yes (by simp [e1]) (wpS_pure (h _ p n S B n1 n2 u fun _ _ => rfl))
  refine wp_no (by simpa using e1) ?_
  have z : lt (p.getD (lo + n) 0) (p.getD (lo + n - 1) 0) = true := fin.resolve_left e1
  have zz := o.as _ _ z
  have K0 : ∀ i, i < lo -> p.getD i 0 = p.getD i 0 := fun _ _ => rfl
  have hl : n < nrem := by omega
  by_cases m : n > 1
  case' pos =>
    refine wp_yes m (wpS_bind (ltAt_ok c B S (by omega) (by omega) ?_))
    by_cases rz : lt (p.getD lo 0) (p.getD (lo + n - 1) 0) = true
    · rw [rz]
      dsimp only
      exact wp_yes rfl (wpS_pure (h _ p n S B n1 n2 u fun _ _ => rfl))
    have rz' : lt (p.getD lo 0) (p.getD (lo + n - 1) 0) = false := by simpa using rz
    rw [rz']
    dsimp only
    refine wp_no (by decide) (wpS_bind (rev_ok S fun st2 S2 => ?_))
    have fl : ∀ i j, lo <= i -> i < lo + n -> lo <= j -> j < lo + n -> lt (p.getD i 0) (p.getD j 0) = false := fun i j i0 i1 j0 j1 =>
      Le.tr o (Le.tr o (u j (lo + n - 1) j0 (by omega) (by omega)) rz') (u lo i (by omega) (by omega) (by omega))
    have B2 := B.rev lo (lo + n)
    have D2 : DownF lt (kas_rev p lo (lo + n)) lo (n + 1) := by
      intro i j hi hij hj
      rw [rev_at B (by omega), rev_at B (by omega)]
      by_cases e : j = lo + n
      · subst e
        rw [if_neg (show ¬ (lo <= lo + n /\ lo + n < lo + n) by omega)]
        by_cases e2 : i = lo + n
        · subst e2
          rw [if_neg (by omega)]
          exact o.rf _
        · rw [if_pos (by omega)]
          exact Le.tr o zz (fl _ _ (by omega) (by omega) (by omega) (by omega))
      · rw [if_pos (by omega), if_pos (by omega)]
        exact fl _ _ (by omega) (by omega) (by omega) (by omega)
    have K2 : ∀ i, i < lo -> (kas_rev p lo (lo + n)).getD i 0 = p.getD i 0 := fun i hi => by rw [rev_at B (by omega), if_neg (by omega)]
    generalize kas_rev p lo (lo + n) = p2 at S2 B2 D2 K2
  case' neg =>
    refine wp_no m ?_
    have B2 := B
    have S2 := S
    have K2 := K0
    have D2 : DownF lt p lo (n + 1) := down_moreF o (fun i j hi hij hj => by
      have : i = j := by omega
      subst this; exact o.rf _) n1 zz
    obtain ⟨st2, est2⟩ : ∃ st2, st2 = st' := ⟨_, rfl⟩
    obtain ⟨p2, ep2⟩ : ∃ p2, p2 = p := ⟨_, rfl⟩
    rw [<- est2] at S2 ⊢
    rw [<- ep2] at S2 B2 D2
    have K2 : ∀ i, i < lo -> p2.getD i 0 = p.getD i 0 := fun i _ => by rw [ep2]
  all_goals
    refine wpS_bind (wpS_lift (wpAny_rule ⟨rfl, ?_⟩))
    refine wpS_bind (wpS_mono (wpS_forRange
      (I := fun x r st3 => ∃ q p3, r = (none, x, q) /\ StP κ it st3 p3 pd /\ PB N p3 /\ DownF lt p3 lo x /\ q + 1 <= x /\ Flat lt p3 (lo + x - (q + 1)) (lo + x) /\ (∀ i, i < lo -> p3.getD i 0 = p.getD i 0))
      (Q := fun r st3 => ∃ x q p3, r = (none, x, q) /\ 1 <= x /\ x <= nrem /\ StP κ it st3 p3 pd /\ PB N p3 /\ DownF lt p3 lo x /\ q + 1 <= x /\ Flat lt p3 (lo + x - (q + 1)) (lo + x) /\ (∀ i, i < lo -> p3.getD i 0 = p.getD i 0)) ?_ ?_ ⟨0, p2, rfl, S2, B2, D2, by omega, ?_, K2⟩) ?_)
    · rintro x r st3 hx1 hx2 ⟨q, p3, rfl, S3, B3, D3, q1, F3, K3⟩
      dsimp only
      refine wpS_bind (ltAt_ok c B3 S3 (by omega) (by omega) ?_)
      by_cases y1 : lt (p3.getD (lo + x) 0) (p3.getD (lo + x - 1) 0) = true
      · rw [y1]
        dsimp only
        refine wp_yes rfl ?_
        have y2 := o.as _ _ y1
        by_cases q0 : q > 0
        · refine wp_yes q0 (wpS_bind (rev_ok S3 fun st4 S4 => wpS_pure ⟨0, _, rfl, S4, B3.rev _ _, ?_, by omega, fun i j i1 i2 j1 j2 => ?_, fun i hi => ?_⟩))
          · have en : (kas_rev p3 (lo + x - (q + 1)) (lo + x)).getD (lo + x) 0 = p3.getD (lo + x) 0 := by rw [rev_at B3 (by omega), if_neg (by omega)]
            have el : (kas_rev p3 (lo + x - (q + 1)) (lo + x)).getD (lo + x - 1) 0 = p3.getD (lo + x - (q + 1)) 0 := by
              rw [rev_at B3 (by omega), if_pos (by omega)]
              congr 1
              omega
            refine down_moreF o (down_flatF B3 (by omega) q1 D3 F3) (by omega) ?_
            rw [en, el]
            exact Le.tr o y2 (F3 _ _ (by omega) (by omega) (by omega) (by omega))
          · have : i = j := by omega
            subst this; exact o.rf _
          · rw [rev_at B3 (by omega), if_neg (by omega)]; exact K3 i hi
        · refine wp_no q0 (wpS_pure ⟨0, p3, rfl, S3, B3, down_moreF o D3 (by omega) y2, by omega, fun i j i1 i2 j1 j2 => ?_, K3⟩)
          have : i = j := by omega
          subst this; exact o.rf _
      · have y1' : lt (p3.getD (lo + x) 0) (p3.getD (lo + x - 1) 0) = false := by simpa using y1
        rw [y1']
        dsimp only
        refine wp_no (by decide) (wpS_bind (ltAt_ok c B3 S3 (by omega) (by omega) ?_))
        by_cases y2 : lt (p3.getD (lo + x - 1) 0) (p3.getD (lo + x) 0) = true
        · rw [y2]
          dsimp only
          exact wp_yes rfl (wpS_pure ⟨x, q, p3, rfl, by omega, by omega, S3, B3, D3, q1, F3, K3⟩)
        · have y2' : lt (p3.getD (lo + x - 1) 0) (p3.getD (lo + x) 0) = false := by simpa using y2
          rw [y2']
          dsimp only
          refine wp_no (by decide) (wpS_pure ⟨q + 1, p3, rfl, S3, B3, down_moreF o D3 (by omega) y2', by omega, fun i j i1 i2 j1 j2 => ?_, K3⟩)
          have fi : ∀ k, lo + (x + 1) - (q + 1 + 1) <= k -> k < lo + (x + 1) -> Le lt (p3.getD k 0) (p3.getD (lo + x - 1) 0) /\ Le lt (p3.getD (lo + x - 1) 0) (p3.getD k 0) := fun k k1 k2 => by
            by_cases ek : k = lo + x
            · rw [ek]; exact ⟨y2', y1'⟩
            · exact ⟨F3 _ _ (by omega) (by omega) (by omega) (by omega), F3 _ _ (by omega) (by omega) (by omega) (by omega)⟩
          exact Le.tr o (fi j j1 j2).1 (fi i i1 i2).2
    · rintro r st3 ⟨q, p3, rfl, S3, B3, D3, q1, F3, K3⟩
      rw [show max (n + 1) nrem = nrem by omega] at D3 q1 F3 ⊢
      exact ⟨nrem, q, p3, rfl, h1, Nat.le_refl _, S3, B3, D3, q1, F3, K3⟩
    · intro i j i1 i2 j1 j2
      have : i = j := by omega
      subst this; exact o.rf _
    rintro r st3 ⟨x, q, p3, rfl, x1, x2, S3, B3, D3, q1, F3, K3⟩
    dsimp only
    by_cases q0 : q > 0
    case' pos =>
      refine wp_yes q0 (wpS_bind (rev_ok S3 fun st4 S4 => ?_))
      have D4 := down_flatF B3 (by omega) q1 D3 F3
      have B4 := B3.rev (lo + x - (q + 1)) (lo + x)
      have K4 : ∀ i, i < lo -> (kas_rev p3 (lo + x - (q + 1)) (lo + x)).getD i 0 = p.getD i 0 := fun i hi => by rw [rev_at B3 (by omega), if_neg (by omega)]; exact K3 i hi
      generalize kas_rev p3 (lo + x - (q + 1)) (lo + x) = p4 at S4 D4 B4 K4
    case' neg =>
      refine wp_no q0 ?_
      have D4 := D3
      have B4 := B3
      have K4 := K3
      have S4 := S3
      generalize p3 = p4 at S4 D4 B4 K4
      generalize st3 = st4 at S4 ⊢
    all_goals
      refine wpS_bind (rev_ok S4 fun st5 S5 => ?_)
      have U5 := down_revF B4 (by omega) D4
      have B5 := B4.rev lo (lo + x)
      have K5 : ∀ i, i < lo -> (kas_rev p4 lo (lo + x)).getD i 0 = p.getD i 0 := fun i hi => by rw [rev_at B4 (by omega), if_neg (by omega)]; exact K4 i hi
      generalize kas_rev p4 lo (lo + x) = p5 at S5 U5 B5 K5
      refine wpS_bind (wpS_mono (wpS_forRange
        (I := fun y r st' => st' = st5 /\ r = (none, y) /\ UpF lt p5 lo y)
        (Q := fun r st' => st' = st5 /\ ∃ n, r = (none, n) /\ 1 <= n /\ n <= nrem /\ UpF lt p5 lo n) ?_ ?_ ⟨rfl, rfl, U5⟩) ?_)
      · rintro y r st' hy1 hy2 ⟨rfl, rfl, u⟩
        refine wpS_bind (ltAt_ok c B5 S5 (by omega) (by omega) ?_)
        cases z : lt (p5.getD (lo + y) 0) (p5.getD (lo + y - 1) 0) with
        | true =>
          dsimp only
          exact wp_yes rfl (wpS_pure ⟨rfl, y, rfl, by omega, by omega, u⟩)
        | false =>
          dsimp only
          exact wp_no (by decide) (wpS_pure ⟨rfl, rfl, up_moreF o u (by omega) z⟩)
      · rintro r st' ⟨rfl, rfl, u⟩
        rw [show max x nrem = nrem by omega] at u ⊢
        exact ⟨rfl, nrem, rfl, h1, Nat.le_refl _, u⟩
      · rintro r st' ⟨rfl, y, rfl, y1, y2, u⟩
        dsimp only
        exact wpS_pure (h _ p5 y S5 B5 y1 y2 u K5)
end
end L2
namespace L2
open PySem PySem.W PyProof.Rows
section
variable {prog : Program} {w : World} {A : Around} {E : Value -> Shared -> Prop} {s : Shared} {κ : SortKind} {it : Array Keyed} {lt : Nat -> Nat -> Bool} {N : Nat}
inductive Rn (lt : Nat -> Nat -> Bool) (p : Array Nat) : Nat -> List (Nat × Nat × Nat) -> Nat -> Prop
  | nil (a : Nat) : Rn lt p a [] a
  | cons {a n pw b : Nat} {ps : List (Nat × Nat × Nat)} (h0 : 0 < n) (u : UpF lt p a n) (t : Rn lt p (a + n) ps b) : Rn lt p a ((a, n, pw) :: ps) b
theorem Rn.le {p : Array Nat} {a b : Nat} {ps : List (Nat × Nat × Nat)} (h : Rn lt p a ps b) : a + ps.length <= b := by
  induction h with
  | nil => exact Nat.le_refl _
  | cons h0 _ _ ih => simp at ih ⊢; omega
theorem Rn.app {p : Array Nat} {a b c : Nat} {ps qs : List (Nat × Nat × Nat)} (h : Rn lt p a ps b) (h2 : Rn lt p b qs c) : Rn lt p a (ps ++ qs) c := by
  induction h with
  | nil => exact h2
  | cons h0 u _ ih => exact .cons h0 u (ih h2)
theorem Rn.cut {p : Array Nat} {c : Nat} {qs : List (Nat × Nat × Nat)} : ∀ {ps : List (Nat × Nat × Nat)} {a : Nat}, Rn lt p a (ps ++ qs) c -> ∃ b, Rn lt p a ps b /\ Rn lt p b qs c
  | [], a, h => ⟨a, .nil a, h⟩
  | x :: ps, a, h => by
    cases h with
    | cons h0 u t =>
      obtain ⟨b, h1, h2⟩ := Rn.cut t
      exact ⟨b, .cons h0 u h1, h2⟩
theorem UpF.same {p p' : Array Nat} {a n : Nat} (h : UpF lt p a n) (e : ∀ i, a <= i -> i < a + n -> p'.getD i 0 = p.getD i 0) : UpF lt p' a n := fun i j hi hij hj => by
  rw [e i hi (by omega), e j (by omega) hj]; exact h i j hi hij hj
theorem Rn.same {p p' : Array Nat} {a b : Nat} {ps : List (Nat × Nat × Nat)} (h : Rn lt p a ps b) (e : ∀ i, a <= i -> i < b -> p'.getD i 0 = p.getD i 0) : Rn lt p' a ps b := by
  induction h with
  | nil => exact .nil _
  | cons h0 u t ih =>
    have := t.le
    exact .cons h0 (u.same fun i h1 h2 => e i h1 (by omega)) (ih fun i h1 h2 => e i (by omega) h2)
theorem Rn.mod {p : Array Nat} {b : Nat} {f : Nat × Nat × Nat -> Nat × Nat × Nat} (hf : ∀ x, (f x).1 = x.1 /\ (f x).2.1 = x.2.1) : ∀ {ps : List (Nat × Nat × Nat)} {a : Nat} (k : Nat), Rn lt p a ps b -> Rn lt p a (ps.modify k f) b
  | [], a, k, h => by cases k <;> exact h
  | x :: ps, a, 0, h => by
    cases h with
    | cons h0 u t =>
      rename_i n pw
      obtain ⟨e1, e2⟩ := hf (a, n, pw)
      have e : f (a, n, pw) = (a, n, (f (a, n, pw)).2.2) := Prod.ext e1 (Prod.ext e2 rfl)
      show Rn lt p a (f (a, n, pw) :: ps) b
      rw [e]
      exact .cons h0 u t
  | x :: ps, a, k + 1, h => by
    cases h with
    | cons h0 u t => exact .cons h0 u (Rn.mod hf k t)
theorem Rn.at {p : Array Nat} {a b i : Nat} {ps : List (Nat × Nat × Nat)} (h : Rn lt p a ps b) (hi : i + 1 < ps.length) : ∃ ps1 sa na w1 nb w2 ps2, ps = ps1 ++ (sa, na, w1) :: (sa + na, nb, w2) :: ps2 /\ ps1.length = i := by
  have e : ps = ps.take i ++ ps.drop i := (List.take_append_drop _ _).symm
  rw [e] at h
  obtain ⟨c, _, h2⟩ := Rn.cut h
  rw [List.drop_eq_getElem_cons (show i < ps.length by omega), List.drop_eq_getElem_cons hi] at h2 e
  generalize hx : ps[i] = x at h2 e
  generalize hy : ps[i + 1] = y at h2 e
  cases h2 with
  | cons h0 u t =>
    cases t with
    | cons h0' u' t' => exact ⟨ps.take i, _, _, _, _, _, _, e, by rw [List.length_take]; omega⟩
theorem getD_toList (p : Array Nat) (i : Nat) : p.getD i 0 = p.toList.getD i 0 := by rw [Array.getD_eq_getD_getElem?, List.getD_eq_getElem?_getD, Array.getElem?_toList]
theorem up_slice {p : Array Nat} {a n : Nat} (u : UpF lt p a n) (h : a + n <= p.size) : ((p.toList.drop a).take n).Pairwise (Le lt) := by
  rw [List.pairwise_iff_getElem]
  intro i j hi hj hij
  rw [List.length_take, List.length_drop] at hi hj
  rw [List.getElem_take, List.getElem_take, List.getElem_drop, List.getElem_drop]
  have g : ∀ k (hk : k < p.toList.length), p.toList[k] = p.getD k 0 := fun k hk => by rw [getD_toList, List.getD_eq_getElem?_getD, List.getElem?_eq_getElem hk]; rfl
  rw [g, g]
  exact u _ _ (by omega) (by omega) (by omega)
theorem mergeAt_runs {i lo sa na w1 sb nb w2 : Nat} {ps1 ps2 : List (Nat × Nat × Nat)} {p : Array Nat} {pd : Array (Nat × Nat × Nat)} {st : SortSt} {Q : Bool -> SortSt -> Prop} (c : Cmp prog w A κ it lt N s) (o : Ord lt) (B : PB N p) (S : StP κ it st p pd) (hpd : pd.toList = ps1 ++ (sa, na, w1) :: (sb, nb, w2) :: ps2) (hi : ps1.length = i)
    (R : Rn lt p 0 pd.toList lo) (hlo : lo <= N) (h : ∀ st' p' pd', StP κ it st' p' pd' -> PB N p' -> pd'.toList = ps1 ++ (sa, na + nb, w1) :: ps2 -> Rn lt p' 0 pd'.toList lo -> (∀ j, lo <= j -> p'.getD j 0 = p.getD j 0) -> Q true st') : wpS (model prog w) A E s (mergeAt' i) Q st := by
  rw [hpd] at R
  obtain ⟨b, R1, R2⟩ := Rn.cut R
  cases R2 with
  | cons a0 ua t =>
    cases t with
    | cons b0 ub R3 =>
      have l3 := R3.le
      have ps : p.size = N := B.size
      have pl : p.toList.length = N := by rw [Array.length_toList, ps]
      generalize hP : p.toList.take sa = P
      generalize hX : (p.toList.drop sa).take na = X
      generalize hY : (p.toList.drop (sa + na)).take nb = Y
      generalize hZ : p.toList.drop (sa + na + nb) = Z
      have lP : P.length = sa := by rw [<- hP, List.length_take]; omega
      have lX : X.length = na := by rw [<- hX, List.length_take, List.length_drop]; omega
      have lY : Y.length = nb := by rw [<- hY, List.length_take, List.length_drop]; omega
      have eL : p.toList = P ++ X ++ Y ++ Z := by
        rw [<- hP, <- hX, <- hY, <- hZ, List.append_assoc, List.append_assoc]
        conv => lhs; rw [<- List.take_append_drop sa p.toList]
        congr 1
        conv => lhs; rw [<- List.take_append_drop na (p.toList.drop sa)]
        congr 1
        rw [List.drop_drop]
        conv => lhs; rw [<- List.take_append_drop nb (p.toList.drop (sa + na))]
        congr 1
        rw [List.drop_drop]
      have sX : X.Pairwise (Le lt) := by rw [<- hX]; exact up_slice ua (by omega)
      have sY : Y.Pairwise (Le lt) := by rw [<- hY]; exact up_slice ub (by omega)
      have S' : StAt κ it st (P ++ X ++ Y ++ Z) pd := ⟨S.k, by rw [S.a, <- eL]; apply Array.toList_inj.mp; rw [Array.toList_map], S.p, S.f⟩
      have lN : ∀ x ∈ P ++ X ++ Y ++ Z, x < N := fun x hx => by
        rw [<- eL] at hx
        have := B.perm.mem_iff.mp (by simpa using hx)
        simpa using this
      have p1 : pd[i]? = some (P.length, X.length, w1) := by rw [<- Array.getElem?_toList, hpd, <- hi, lP, lX]; simp
      have p2 : pd[i + 1]? = some (P.length + X.length, Y.length, w2) := by rw [<- Array.getElem?_toList, hpd, <- hi, lP, lX, lY]; simp
      refine mergeAt_ok c o S' lN p1 p2 (by omega) (by omega) sX sY fun st' W SW pW sW => ?_
      have lW : W.length = na + nb := by rw [pW.length_eq, List.length_append, lX, lY]
      have pW' : (P ++ W ++ Z).Perm p.toList := by
        rw [eL, List.append_assoc (P ++ X) Y Z, List.append_assoc P X, List.append_assoc P W]
        refine List.Perm.append_left _ ?_
        rw [<- List.append_assoc]
        exact List.Perm.append_right _ pW
      have gD : ∀ j, ((P ++ W ++ Z).toArray).getD j 0 = (P ++ W ++ Z).getD j 0 := fun j => by rw [getD_toList]
      have keep : ∀ j, j < sa \/ sa + na + nb <= j -> ((P ++ W ++ Z).toArray).getD j 0 = p.getD j 0 := fun j hj => by
        rw [gD, getD_toList, eL, List.getD_eq_getElem?_getD, List.getD_eq_getElem?_getD]
        congr 1
        rcases hj with hj | hj
        · rw [List.append_assoc, List.append_assoc, List.append_assoc, List.getElem?_append_left (by omega), List.getElem?_append_left (by omega)]
        · rw [List.getElem?_append_right (by rw [List.length_append]; omega), List.getElem?_append_right (by rw [List.length_append, List.length_append]; omega)]
          congr 1
          rw [List.length_append, List.length_append, List.length_append]
          omega
      refine h st' (P ++ W ++ Z).toArray _ ⟨SW.k, by rw [SW.a]; simp, SW.p, SW.f⟩ ⟨?_⟩ ?_ ?_ (fun j hj => keep j (.inr (by omega)))
      · exact Array.Perm.trans (by rw [Array.perm_iff_toList_perm]; exact pW') B.perm
      · rw [Array.toList_eraseIdxIfInBounds, Array.toList_setIfInBounds, hpd, <- hi, lP, lX, lY]
        simp [List.eraseIdx_append_of_length_le]
      · rw [Array.toList_eraseIdxIfInBounds, Array.toList_setIfInBounds, hpd, <- hi, lP, lX, lY]
        have e : ((ps1 ++ (sa, na, w1) :: (sa + na, nb, w2) :: ps2).set ps1.length (sa, na + nb, w1)).eraseIdx (ps1.length + 1) = ps1 ++ (sa, na + nb, w1) :: ps2 := by
          simp [List.eraseIdx_append_of_length_le]
        rw [e]
        refine (R1.same fun j _ h2 => keep j (.inl h2)).app (.cons (by omega) ?_ ?_)
        · intro i j hi' hij hj
          rw [gD, gD]
          have gW : ∀ k, sa <= k -> k < sa + (na + nb) -> (P ++ W ++ Z).getD k 0 = W.getD (k - sa) 0 := fun k k1 k2 => by
            rw [List.getD_eq_getElem?_getD, List.getD_eq_getElem?_getD, List.append_assoc, List.getElem?_append_right (by omega), List.getElem?_append_left (by omega), lP]
          rw [gW i hi' (by omega), gW j (by omega) hj]
          by_cases e : i = j
          · subst e; exact o.rf _
          · have gE : ∀ k (hk : k < W.length), W.getD k 0 = W[k] := fun k hk => by rw [List.getD_eq_getElem?_getD, List.getElem?_eq_getElem hk]; rfl
            rw [gE (i - sa) (by omega), gE (j - sa) (by omega)]
            exact List.pairwise_iff_getElem.mp sW _ _ (by omega) (by omega) (by omega)
        · rw [<- Nat.add_assoc]
          exact R3.same fun j h1 _ => keep j (.inr h1)
end
end L2
namespace L2
open PySem PySem.W PyProof.Rows
section
variable {prog : Program} {w : World} {A : Around} {E : Value -> Shared -> Prop} {s : Shared} {κ : SortKind} {it : Array Keyed} {lt : Nat -> Nat -> Bool} {N : Nat}
theorem mergeAt_any {i lo : Nat} {p : Array Nat} {pd : Array (Nat × Nat × Nat)} {st : SortSt} {Q : Bool -> SortSt -> Prop} (c : Cmp prog w A κ it lt N s) (o : Ord lt) (B : PB N p) (S : StP κ it st p pd) (R : Rn lt p 0 pd.toList lo) (hlo : lo <= N) (hi : i + 1 < pd.size)
    (h : ∀ st' p' pd', StP κ it st' p' pd' -> PB N p' -> pd'.size = pd.size - 1 -> Rn lt p' 0 pd'.toList lo -> (∀ j, lo <= j -> p'.getD j 0 = p.getD j 0) -> Q true st') : wpS (model prog w) A E s (mergeAt' i) Q st := by
  obtain ⟨ps1, sa, na, w1, nb, w2, ps2, e1, e2⟩ := R.at (i := i) (by rw [Array.length_toList]; exact hi)
  refine mergeAt_runs c o B S e1 e2 R hlo fun st3 p3 pd3 S3 B3 e3 R3 k3 => h st3 p3 pd3 S3 B3 ?_ R3 k3
  have a1 : pd3.toList.length = pd3.size := Array.length_toList
  have a2 : pd.toList.length = pd.size := Array.length_toList
  rw [e3] at a1
  rw [e1] at a2
  simp at a1 a2
  omega
theorem sortRuns_ok {p : Array Nat} {st : SortSt} {Q : Unit -> SortSt -> Prop} (c : Cmp prog w A κ it lt N s) (o : Ord lt) (B : PB N p) (S : StP κ it st p #[]) (h2 : 2 <= N)
    (h : ∀ st' p' pd, StP κ it st' p' pd -> PB N p' -> UpF lt p' 0 N -> Q () st') : wpS (model prog w) A E s sortRuns' Q st := by
  refine wpS_bind (wpS_get ?_)
  have hs : (arrOf st).size = N := by rw [S.a, Array.size_map, B.size]
  dsimp only
  rw [hs]
  generalize minRun' N N 0 = mr
  refine wpS_bind (wpS_mono (wpS_forRange
    (I := fun x r st' => ∃ lo p' pd, r = (none, lo) /\ StP κ it st' p' pd /\ PB N p' /\ Rn lt p' 0 pd.toList lo /\ lo <= N /\ x <= lo)
    (Q := fun r st' => ∃ p' pd, r = (none, N) /\ StP κ it st' p' pd /\ PB N p' /\ Rn lt p' 0 pd.toList N) ?_ ?_ ⟨0, p, #[], rfl, S, B, .nil 0, by omega, by omega⟩) ?_)
  rotate_left
  · rintro r st' ⟨lo, p', pd, rfl, S', B', R', l1, l2⟩
    have : lo = N := by omega
    subst this
    exact ⟨p', pd, rfl, S', B', R'⟩
  · rintro r st' ⟨p', pd, rfl, S', B', R'⟩
    dsimp only
    refine wpS_bind (wpS_mono (wpS_forRange
      (I := fun x r st' => ∃ p' pd, r = (none, ()) /\ StP κ it st' p' pd /\ PB N p' /\ Rn lt p' 0 pd.toList N /\ pd.size + x <= N)
      (Q := fun r st' => ∃ p' pd, r = (none, ()) /\ StP κ it st' p' pd /\ PB N p' /\ Rn lt p' 0 pd.toList N /\ pd.size <= 1) ?_ ?_ ⟨p', pd, rfl, S', B', R', ?_⟩) ?_)
    · rintro x r st' _ hx ⟨p', pd, rfl, S', B', R', l1⟩
      rcases st' with ⟨kd, ar, pn, gl, fl⟩
      have ep : pn = pd := S'.p
      subst ep
      refine wpS_bind (wpS_get ?_)
      by_cases e : pn.size <= 1
      · exact wp_yes e (wpS_pure ⟨p', pn, rfl, S', B', R', e⟩)
      refine wp_no e ?_
      refine wpS_bind (mergeAt_any c o B' S' R' (Nat.le_refl _) ?_ fun st3 p3 pd3 S3 B3 l3 R3 _ => ?_)
      · dsimp only
        repeat' split
        all_goals omega
      · refine wp_no (by decide) (wpS_pure ⟨p3, pd3, rfl, S3, B3, R3, by omega⟩)
    · rintro r st' ⟨p', pd, rfl, S', B', R', l1⟩
      exact ⟨p', pd, rfl, S', B', R', by omega⟩
    · have := R'.le
      rw [Array.length_toList] at this
      omega
    · rintro r st' ⟨p', pd, rfl, S', B', R', l1⟩
      dsimp only
      refine wpS_pure (h _ p' pd S' B' ?_)
      generalize hl : pd.toList = ps at R'
      cases R' with
      | nil => omega
      | cons h0 u t =>
        cases t with
        | nil => rw [Nat.zero_add]; exact u
        | cons h0' u' t' =>
          have : pd.toList.length <= 1 := by rw [Array.length_toList]; exact l1
          rw [hl] at this
          simp at this
  rintro x r st' _ hx ⟨lo, p', pd, rfl, S', B', R', l1, l2⟩
  dsimp only
  by_cases e : lo >= N
  · have : lo = N := by omega
    subst this
    exact wp_yes e (wpS_pure ⟨p', pd, rfl, S', B', R'⟩)
  refine wp_no e (wpS_bind (count_ok c o B' S' (by omega) (by omega) fun st2 p2 n S2 B2 n1 n2 U2 K2 => ?_))
  dsimp only
  refine wp_ite (fun hm => ?_) (fun hm => ?_)
  case' refine_1 =>
    refine wpS_bind (wpS_lift (wpAny_rule ⟨rfl, ?_⟩))
    refine wpS_bind (binary_ok c o B2 S2 (by omega) (by omega) (by omega) U2 fun st3 p3 S3 B3 U3 K3' => ?_)
    refine wp_no (by decide) ?_
    have K3 : ∀ i, i < lo -> p3.getD i 0 = p'.getD i 0 := fun i hi => (K3' i hi).trans (K2 i hi)
    have n3 : 0 < min (N - lo) (minRun' N N 0) := by
      have : n < minRun' N N 0 := hm
      omega
    have n4 : lo + min (N - lo) (minRun' N N 0) <= N := by omega
  case' refine_2 =>
    have S3 := S2
    have B3 := B2
    have U3 := U2
    have K3 := K2
    generalize p2 = p3 at S3 B3 U3 K3
    generalize st2 = st3 at S3 ⊢
    have n3 : 0 < n := n1
    have n4 : lo + n <= N := by omega
  all_goals
    have R3 := R'.same (p' := p3) fun i _ hi => K3 i hi
    refine wpS_bind (wpS_get ?_)
    rw [show (pendingOf st3).back? = pd.back? by rw [S3.p]]
    have push : ∀ (st4 : SortSt) (p4 : Array Nat) (pd4 : Array (Nat × Nat × Nat)) (k : Nat), 0 < k -> lo + k <= N -> UpF lt p4 lo k -> StP κ it st4 p4 pd4 -> PB N p4 -> Rn lt p4 0 pd4.toList lo ->
        ∃ p' pd, StP κ it (setPending st4 ((pendingOf st4).push (lo, k, 0))) p' pd /\ PB N p' /\ Rn lt p' 0 pd.toList (lo + k) /\ lo + k <= N /\ x + 1 <= lo + k := fun st4 p4 pd4 k k1 k2 u4 S4 B4 R4 =>
      ⟨p4, pd4.push (lo, k, 0), ⟨S4.k, S4.a, by show (pendingOf st4).push _ = _; rw [S4.p], S4.f⟩, B4, by rw [Array.toList_push]; exact R4.app (.cons k1 u4 (.nil _)), k2, by omega⟩
    cases hb : pd.back? with
    | none =>
      dsimp only
      obtain ⟨p9, pd9, q1, q2, q3, q4, q5⟩ := push st3 p3 pd _ n3 n4 U3 S3 B3 R3
      exact wpS_bind (wpS_modify (wpS_pure ⟨_, p9, pd9, rfl, q1, q2, q3, q4, q5⟩))
    | some b =>
      obtain ⟨s1, m1, w1⟩ := b
      dsimp only
      refine wpS_bind (wpS_mono (wpS_forRange
        (I := fun _ r st' => ∃ p4 pd4, r = (none, ()) /\ StP κ it st' p4 pd4 /\ PB N p4 /\ Rn lt p4 0 pd4.toList lo /\ ∀ j, lo <= j -> p4.getD j 0 = p3.getD j 0)
        (Q := fun r st' => ∃ p4 pd4, r = (none, ()) /\ StP κ it st' p4 pd4 /\ PB N p4 /\ Rn lt p4 0 pd4.toList lo /\ ∀ j, lo <= j -> p4.getD j 0 = p3.getD j 0) ?_ (fun _ _ z => z) ⟨p3, pd, rfl, S3, B3, R3, fun _ _ => rfl⟩) ?_)
      · rintro y r st4 _ hy ⟨p4, pd4, rfl, S4, B4, R4, K4⟩
        rcases st4 with ⟨kd, ar, pn, gl, fl⟩
        have ep : pn = pd4 := S4.p
        subst ep
        refine wpS_bind (wpS_get ?_)
        dsimp only
        by_cases e5 : pn.size > 1
        · have e6 : pn[pn.size - 2]? = some pn[pn.size - 2] := Array.getElem?_eq_getElem (by omega)
          rw [if_pos e5, e6]
          generalize pn[pn.size - 2] = b6
          obtain ⟨b61, b62, b63⟩ := b6
          dsimp only
          refine wp_ite (fun _ => wpS_pure ⟨p4, pn, rfl, S4, B4, R4, K4⟩) (fun _ => ?_)
          refine wpS_bind (mergeAt_any c o B4 S4 R4 l1 (by omega) fun st5 p5 pd5 S5 B5 l5 R5 K5 => ?_)
          exact wp_no (by decide) (wpS_pure ⟨p5, pd5, rfl, S5, B5, R5, fun j hj => (K5 j hj).trans (K4 j hj)⟩)
        · rw [if_neg e5]
          exact wpS_pure ⟨p4, pn, rfl, S4, B4, R4, K4⟩
      · rintro r st4 ⟨p4, pd4, rfl, S4, B4, R4, K4⟩
        rcases st4 with ⟨kd, ar, pn, gl, fl⟩
        have ep : pn = pd4 := S4.p
        subst ep
        dsimp only
        refine wpS_bind (wpS_modify (wpS_bind (wpS_modify (wpS_pure ?_))))
        have U4 := U3.same (p' := p4) fun i h1 _ => K4 i h1
        refine ⟨_, p4, _, rfl, ⟨S4.k, S4.a, rfl, S4.f⟩, B4, ?_, n4, by omega⟩
        dsimp only
        rw [Array.toList_push, Array.toList_modify]
        refine Rn.app (Rn.mod ?_ _ R4) (.cons n3 U4 (.nil _))
        intro z
        exact ⟨rfl, rfl⟩
end
end L2
namespace L2
open PySem PySem.W PyProof.Rows
section
variable {prog : Program} {w : World} {A : Around} {E : Value -> Shared -> Prop} {s : Shared}
theorem sort_bodyG {a : Addr} {vs : List Value} {n : Nat} {lt : Nat -> Nat -> Bool} {P : PySem.Fin -> Shared -> Prop} (ho : s.heap.get? a = some (seqObj "list" vs.toArray n)) (o : Ord lt) (hbig : vs.length <= 1000000)
    (ask : 2 <= vs.length -> ∀ h', (∀ b u, b ≠ a -> s.heap.get? b = some u -> h'.get? b = some u) -> ∃ κ : SortKind, (∀ (E : Value -> Shared -> Prop) (Q : SortKind -> Shared -> Prop), Q κ { s with heap := h' } -> wpAny (model prog w) A (keyKind' vs.toArray) Q E { s with heap := h' }) /\
      ∀ (i j : Nat) (C : Bool -> Shared -> Prop), i < vs.length -> j < vs.length -> C (lt i j) { s with heap := h' } -> wpAny (model prog w) A (keyLt' κ (vs.getD i Value.none) (vs.getD j Value.none)) C (fun _ _ => False) { s with heap := h' })
    (q : ∀ p, PB vs.length p -> Up lt p vs.length -> P (.done (.ret .none)) { s with heap := sortedHeap s.heap a vs (outOf vs p).toArray }) : wpAny (model prog w) A (Builtin.«list.sort» ⟨[.ref a], []⟩) P E s := by
  rw [list_sort_plain]
  have la : a < s.heap.objs.size := Heap.lt_size ho
  have zs : vs.length <= sizeLine := by rw [sizeLine_eq]; omega
  refine wpAny_bind (listItems_at ho rfl (wpAny_bind (listUpdate_at ho rfl ?_ (by rw [List.size_toArray]; exact zs) (Nat.zero_le _))))
  obtain ⟨e1, o1⟩ : ∃ e1, (s.heap.update a (Obj.mapSeq fun _ => (#[] : Array Value))).get? a = some (seqObj "list" #[] e1) := ⟨_, get?_update_seq ho fun _ => #[]⟩
  refine wpAny_bind (seqEpoch_at o1 rfl (wpAny_bind (wpAny_newTuple (wpAny_bind (wpAny_newList (wpAny_holding ?_) (Nat.zero_le _))) (by show vs.length <= _; exact zs))))
  have sb := Heap.SameBut.update s.heap a (Obj.mapSeq fun _ => (#[] : Array Value))
  have keep : ∀ b u, b ≠ a -> s.heap.get? b = some u -> (((s.heap.update a (Obj.mapSeq fun _ => #[])).push (seqObj "tuple" vs.toArray 0)).push (seqObj "list" #[] 0)).get? b = some u := fun b u hb z =>
    Heap.get?_push_of_some _ (Heap.get?_push_of_some _ ((sb.2 b hb).trans z))
  have o6 : (((s.heap.update a (Obj.mapSeq fun _ => #[])).push (seqObj "tuple" vs.toArray 0)).push (seqObj "list" #[] 0)).get? a = some (seqObj "list" #[] e1) := Heap.get?_push_of_some _ (Heap.get?_push_of_some _ o1)
  show wpAny (model prog w) A _ P E { s with heap := ((s.heap.update a (Obj.mapSeq fun _ => (#[] : Array Value))).push (seqObj "tuple" vs.toArray 0)).push (seqObj "list" #[] 0) }
  dsimp only
  have fin : ∀ (st : SortSt) (out : List Value), (arrOf st).map (·.2) = out.toArray -> out.length = vs.length -> failedOf st = none -> P (.done (.ret .none)) { s with heap := sortedHeap s.heap a vs out.toArray } ->
      wpAny (model prog w) A (do
        let touched := (<- seqEpoch a) != e1
        Builtin.List.listUpdate (.ref a) fun _ => (arrOf st).map (·.2)
        if let some e := failedOf st then rule "list.sort.comparison-raised"; throw e
        if touched then rule "list.sort.modified"; raiseError "ValueError" "list modified during sort"
        ret .none) P E { s with heap := ((s.heap.update a (Obj.mapSeq fun _ => (#[] : Array Value))).push (seqObj "tuple" vs.toArray 0)).push (seqObj "list" #[] 0) } := by
    intro st out eo el ef qq
    refine wpAny_bind (seqEpoch_at o6 rfl ?_)
    rw [eo]
    refine wpAny_bind (listUpdate_at o6 rfl ?_ (Nat.zero_le _) (by show out.toArray.size <= _; rw [List.size_toArray, el, sizeLine_eq]; omega))
    rw [ef]
    simp only [bne_self_eq_false, Bool.false_eq_true, if_false]
    exact wpAny_pure qq
  by_cases two : vs.length >= 2
  · have hn2 : ¬ vs.toArray.size < 2 := by rw [List.size_toArray]; omega
    rw [if_neg hn2, if_neg hn2]
    obtain ⟨κ, kk, cc⟩ := ask two _ keep
    have hit : ∀ i, i < vs.length -> (kas_item (vs.toArray.zip vs.toArray) i).1 = vs.getD i Value.none := fun i hi => by simp [kas_item, Array.getD, List.getD, hi]
    refine wpAny_bind (kk _ _ ?_)
    have C : Cmp prog w A κ (vs.toArray.zip vs.toArray) lt vs.length { s with heap := ((s.heap.update a (Obj.mapSeq fun _ => (#[] : Array Value))).push (seqObj "tuple" vs.toArray 0)).push (seqObj "list" #[] 0) } := fun i j C hi hj hC => by
      unfold kas_cmp
      rw [hit i hi, hit j hj]
      exact cc i j C hi hj hC
    have S0 : StP κ (vs.toArray.zip vs.toArray) (SortSt.mk' κ (vs.toArray.zip vs.toArray) #[] 7 none) (List.range vs.length).toArray #[] := by
      refine ⟨rfl, ?_, rfl, rfl⟩
      show vs.toArray.zip vs.toArray = _
      apply Array.ext (by simp)
      intro i h1 h2
      simp at h1
      simp [kas_item, Array.getD, h1]
    refine wpAny_bind (wpAny_mono (sortRuns_ok (E := E) (Q := fun _ st' => ∃ p, PB vs.length p /\ Up lt p vs.length /\ arrOf st' = p.map (kas_item (vs.toArray.zip vs.toArray)) /\ failedOf st' = none) C o ⟨Array.Perm.refl _⟩ S0 two fun st' p' pd S' B' U' => ⟨p', B', fun i j hij hj => U' i j (Nat.zero_le _) hij (by omega), S'.a, S'.f⟩) ?_ fun _ _ x => x)
    rintro ⟨⟨⟩, st'⟩ s' ⟨rfl, p, pb, up, ea, ef⟩
    exact fin st' (outOf vs p) (kat_snds rfl ea) (by unfold outOf; rw [List.length_map, Array.length_toList, pb.size]) ef (q p pb up)
  · have hn2 : vs.toArray.size < 2 := by rw [List.size_toArray]; omega
    rw [if_pos hn2, if_pos hn2]
    refine wpAny_bind (wpAny_pure ?_)
    rw [StateT.run_pure]
    refine wpAny_bind (wpAny_pure ?_)
    refine fin (SortSt.mk' general' (vs.toArray.zip vs.toArray) #[] 7 none) (outOf vs (List.range vs.length).toArray) ?_ (by rw [sort_one two]) rfl (q _ ⟨Array.Perm.refl _⟩ ?_)
    · rw [sort_one two]; exact zip_snd vs
    · intro i j hij hj
      have : i = j := by omega
      subst this; exact o.rf _
theorem sorted_genG {l : Addr} {vs : List Value} {lt : Nat -> Nat -> Bool} {Q : Value -> Shared -> Prop} (hl : s.heap.IsList l vs.toArray) (o : Ord lt) (hbig : vs.length <= 1000000) (ask : Asks prog w s lt vs)
    (q : ∀ p, PB vs.length p -> Up lt p vs.length -> Q (.ref (s.heap.objs.size + 1)) { s with heap := sortedAll s.heap vs (outOf vs p).toArray }) : wpAny (model prog w) A (call (.builtin "sorted") [.ref l]) Q E s := by
  refine Calls.call_function_entry kind_sorted plain_sorted entry_sorted (args_sorted1 _) ?_
  unfold Builtin.«sorted»
  refine wpAny_bind (m := checkCount "sorted" 1 1 _) (wpAny_pure (wpAny_bind (collect_list hl (wpAny_bind (wpAny_newList ?_ (by rw [sizeLine_eq]; omega))) (by rw [sizeLine_eq]; omega))))
  have z1 : ((s.heap.push (seqObj "list" #[] 0)).update s.heap.objs.size (Obj.mapSeq (· ++ vs.toArray))).objs.size = s.heap.objs.size + 1 := by rw [Heap.size_update, size_push']
  have oL : (((s.heap.push (seqObj "list" #[] 0)).update s.heap.objs.size (Obj.mapSeq (· ++ vs.toArray))).push (seqObj "list" vs.toArray 0)).get? (s.heap.objs.size + 1) = some (seqObj "list" vs.toArray 0) := by
    rw [<- z1]; exact Heap.get?_push_size _ rfl
  have keep : ∀ b u, s.heap.get? b = some u -> (((s.heap.push (seqObj "list" #[] 0)).update s.heap.objs.size (Obj.mapSeq (· ++ vs.toArray))).push (seqObj "list" vs.toArray 0)).get? b = some u := fun b u z => by
    have lb : b < s.heap.objs.size := Heap.lt_size z
    exact Heap.get?_push_of_some _ (by rw [Heap.get?_update_ne _ _ _ _ (Nat.ne_of_lt lb)]; exact Heap.get?_push_of_some _ z)
  show wpAny _ _ _ _ _ { s with heap := ((s.heap.push (seqObj "list" #[] 0)).update s.heap.objs.size (Obj.mapSeq (· ++ vs.toArray))).push (seqObj "list" vs.toArray 0) }
  rw [z1]
  refine wpAny_bind (wpAny_holding (wpAny_call_entry slot_list_sort ⟨_, oL, rfl⟩ entry_list_sort (sort_bodyG oL o hbig (fun two h' k => ask _ h' (fun b u z => k b u (fun e => ?_) (keep b u z)) two) fun p pb up => ⟨_, rfl, ?_⟩) (args_list_sort _)))
  · exact absurd (Heap.lt_size z) (by rw [e]; exact Nat.not_lt.mpr (Nat.le_succ _))
  · exact wpAny_pure ⟨_, rfl, q p pb up⟩
end
end L2
namespace L2
open PySem PySem.W PyProof.Rows
section
variable {X : Cx}
def rSortedG (K : PySem.W.Frag) : List V -> Hp -> VK -> Prop := fun xs H Q => ∃ (p : Addr) (rs : List V) (kss : List (List Int)), xs = [.ref p] /\ SqL K H p rs /\ rs.length <= 1000000 /\ Paired (IntsAt H) rs kss /\ (∀ ks ∈ kss, ks ≠ []) /\
  ∀ (l : Addr) (rs' : List V) (kss' : List (List Int)), Paired (IntsAt H) rs' kss' -> kss'.Perm kss -> kss'.Pairwise LexLe -> H l = none -> Q (.ref l) (upd H l (.lst rs'))
theorem call_sortedG : CallR X (.builtin "sorted") (rSortedG X.K) := by
  intro pins s σ H xs us Q I r h
  obtain ⟨p, rs, kss, rfl, hp, hn, hk, hne, q⟩ := h
  obtain ⟨u, rfl, ru⟩ := Vals.one r
  cases (show u = Value.ref p from ru)
  obtain ⟨its, r1, t1, _⟩ := I.list hp
  have hl : its.length = rs.length := r1.length.symm
  have kl : rs.length = kss.length := Paired.length hk
  have tup : ∀ i, i < rs.length -> ∃ a ks, rs.getD i .non = .ref a /\ kss.getD i [] = ks /\ its.getD i Value.none = .ref a /\ H a = some (.tup (ks.map V.int)) := fun i hi => by
    obtain ⟨ks, e, a, ea, ha⟩ := Paired.at hk (i := i) (a := rs[i]) (by simp [hi])
    obtain ⟨v, ev, rv⟩ := r1.get (i := i) (x := rs[i]) (by simp [hi])
    rw [ea] at rv
    refine ⟨a, ks, by simp [hi, ea], by rw [List.getD_eq_getElem?_getD, e]; rfl, ?_, ha⟩
    rw [List.getD_eq_getElem?_getD, ev]
    exact rv
  have tups : Paired (TupI s.heap) its kss := by
    have e1 := range_getD its Value.none
    have e2 := range_getD kss []
    rw [hl] at e1
    rw [<- kl] at e2
    rw [<- e1, <- e2]
    refine paired_map fun i hi => ?_
    obtain ⟨a, ks, _, e4, e5, e6⟩ := tup i (List.mem_range.mp hi)
    obtain ⟨_, us, ru, o, g, hc, n, hd⟩ := I.hok a _ e6
    rw [e4, e5]
    exact ⟨a, o, us.toArray, n, rfl, g, hc, hd, by simpa using intsAre_of ru⟩
  refine sorted_genG t1.isList (lex_ord kss) (by omega) (asks_tups tups hne) fun pm pb up => ?_
  obtain ⟨e, he⟩ := sortedAll_at s.heap its (outOf its pm).toArray
  have fr : s.heap.objs.size <= s.heap.objs.size + 1 := Nat.le_succ _
  have pl : ∀ i ∈ pm.toList, i < rs.length := fun i hi => by
    have := pb.list.mem_iff.mp hi
    rw [List.mem_range, hl] at this
    exact this
  have ls : pm.toList.length = rs.length := by rw [Array.length_toList, pb.size, hl]
  refine ⟨.ref (s.heap.objs.size + 1), upd H (s.heap.objs.size + 1) (.lst (pm.toList.map fun i => rs.getD i .non)), I.laid (t' := s.toks) (fun b o z => sortedAll_old z) fr ?_, rfl,
    q _ _ (pm.toList.map fun i => kss.getD i []) (paired_map fun i hi => ?_) ?_ ?_ (I.hok.fresh fr)⟩
  · refine ⟨?_, outOf its pm, e, paired_map fun i hi => ?_, he⟩
    · rw [List.length_map, ls, sizeLine_eq]; omega
    · obtain ⟨a, ks, e3, e4, e5, e6⟩ := tup i (pl i hi)
      rw [e3, e5]
      exact rfl
  · obtain ⟨a, ks, e3, e4, e5, e6⟩ := tup i (pl i hi)
    rw [e3, e4]
    exact ⟨a, rfl, e6⟩
  · have := pb.list.map fun i => kss.getD i []
    rw [hl, kl, range_getD] at this
    exact this
  · rw [List.pairwise_iff_getElem]
    intro i j hi hj hij
    rw [List.length_map] at hi hj
    have := up i j (by omega) (by rw [hl]; omega)
    simp only [List.getElem_map, Array.getElem_toList]
    have gi : pm.getD i 0 = pm[i] := by simp [Array.getD, show i < pm.size by rw [<- Array.length_toList]; exact hi]
    have gj : pm.getD j 0 = pm[j] := by simp [Array.getD, show j < pm.size by rw [<- Array.length_toList]; exact hj]
    rw [gi, gj] at this
    exact this
end
end L2
namespace L2
open PySem PySem.Spec PyProof.Rows
theorem sqT {K : PySem.W.Frag} {H H' : Hp} {a : Addr} {xs : List V} (e : Same H H') (h : SqT K H a xs) : SqT K H' a xs := e.seqK (k := .t) h
section
variable {X : Cx}
def rCatS (K : PySem.W.Frag) : R2 := fun x y H Q => ∃ a b xs ys, x = .ref a /\ y = .ref b /\ SqT K H a xs /\ SqT K H b ys /\ xs.length + ys.length <= sizeLine /\ ∀ p H', Same H H' -> SqT K H' p (xs ++ ys) -> Q (.ref p) H'
theorem op_catS : OpR X (binaryOp .Add) (rCatS X.K) := by
  intro pins s σ H x y v u Q I rx ry h
  obtain ⟨a, b, xs, ys, rfl, rfl, ha, hb, hz, q⟩ := h
  by_cases hx : xs = []
  · subst hx
    exact op_cat0 pins s σ H _ _ v u Q I rx ry ⟨a, b, ys, rfl, rfl, ha, hb, q b H (Same.refl H) hb⟩
  · refine op_catT pins s σ H _ _ v u Q I rx ry ⟨a, b, xs, ys, rfl, rfl, ha, hb, hx, hz, fun hy => ?_, fun hy p hp => q p _ (Same.new hp) (SqT.of upd_same)⟩
    subst hy
    exact q a H (Same.refl H) (by rw [List.append_nil]; exact ha)
end
end L2
namespace L2
open PySem PySem.W PyProof.Rows
section
variable {X : Cx}
end
section
variable {prog : Program} {w : World} {A : Around}
end
section
variable {X : Cx}
end
end L2
namespace L2
open PySem PySem.Spec PyProof.Rows
section
variable {X : Cx}
end
end L2
namespace L2
open PySem PySem.W PyProof.Rows
section
variable {prog : Program} {w : World} {d : Addr} {es : Array DictEntry} {ep : Nat} {o : Obj}
end
section
variable {X : Cx}
end
end L2
namespace L2
open PySem PySem.Spec PyProof.Rows
section
variable {X : Cx}
def isK (k : Int) (v : Value) : Bool := match v with | .int a _ => a == k | _ => false
theorem ints_at {ns : List Int} {its : List Value} (r : Vals (ns.map V.int) its) {m : Nat} (hm : m < its.length) : ∃ t a, ns[m]? = some a /\ its[m] = .int a t := by
  have hl := r.length
  rw [List.length_map] at hl
  have e : (ns.map V.int)[m]? = some (V.int ns[m]) := by rw [List.getElem?_map, List.getElem?_eq_getElem (by omega)]; rfl
  obtain ⟨u, hu, t, ru⟩ := r.get e
  rw [List.getElem?_eq_getElem hm] at hu
  exact ⟨t, ns[m], List.getElem?_eq_getElem (by omega), (Option.some.inj hu).trans ru⟩
end
end L2
namespace L2
open PySem PySem.Spec PyProof.Rows PySem.MeetsSeq
section
variable {X : Cx}
end
end L2
namespace L2
open PySem PySem.Spec PyProof.Rows PySem.MeetsSeq
section
variable {X : Cx}
variable {o e : Expr} {es : List Expr} {to : TE} {t : TA} {name : Str} {apos cpos : Pos} {id : String} {r : V -> List V -> Hp -> VK -> Prop}
end
end L2
namespace HT
open PySem PySem.Spec PyProof.Rows
section
variable {prog : Program} {w : World} {A : Around} {E : Value -> Shared -> Prop} {s : Shared}
end
end HT
namespace L2
open PySem PySem.Spec PyProof.Rows
section
variable {X : Cx}
end
end L2
namespace L2
open PySem PySem.Spec PyProof.Rows
section
open PySem.SeqAt
open PySem.AutoSeq1 (wpAny_loadPart')
open PySem.MeetsSeq PySem.MeetsSeq2 PySem.MeetsSeq3
end
end L2
namespace L2
open PySem PySem.W PyProof.Rows
section
variable {prog : Program} {w : World} {A : Around} {E : Value -> Shared -> Prop} {s : Shared}
end
section
variable {X : Cx}
end
end L2
namespace L2
open PySem PySem.Spec PyProof.Rows
section
variable {env : Env} {C : Addr} {names : List (Str × NameKind)} {x : Str} {d : Addr}
end
section
variable {X : Cx} {scope : Scope} {N' : List Str} {fr : List (Option Nat)} {pins : List (Addr × Obj)} {σ : St} {H : Hp} {s : Shared} {fp : List Addr}
end
section
variable {X : Cx} {scope : Scope} {N' : List Str} {fr : List (Option Nat)} {pins : List (Addr × Obj)} {σ : St} {H : Hp} {s : Shared} {fp : List Addr} {it : Addr} {tn : Nat -> Heap -> Prop} {J : It}
  {elt tg iter : Expr} {ifs : List Expr} {g : TG} {tt : TT} {te : TE} {pos : Pos} {fin : List V -> Hp -> Prop} {W : Nat -> Nat -> List V -> St -> Hp -> Prop} {RR : Value -> Addr -> Result -> Shared -> Prop} {E : Value -> Shared -> Prop}
end
end L2
namespace L2
open PySem PySem.Spec PyProof.Rows PySem.MeetsSeq PySem.AutoSeq1
end L2
namespace L2
open PySem PySem.Spec PyProof.Rows
section
variable {X : Cx}
theorem call_intB : CallR X (.type "int") (fun xs H Q => ∃ b : Bool, xs = [.bl b] /\ Q (.int (if b = true then 1 else 0)) H) := by
  intro pins s σ H xs us Q I r h
  obtain ⟨b, rfl, q⟩ := h
  obtain ⟨u, rfl, ru⟩ := Vals.one r
  cases (show u = Value.bool b from ru)
  exact call_int_bool ⟨.int _, H, I.kept (t' := s.toks + 1) fun b o e => e, ⟨_, rfl⟩, q⟩
end
def rLenK (K : PySem.W.Frag) : List V -> Hp -> VK -> Prop := fun xs H Q => ∃ p ys, xs = [.ref p] /\ (SqL K H p ys \/ SqT K H p ys) /\ Q (.int ys.length) H
def rIsiK (K : PySem.W.Frag) : List V -> Hp -> VK -> Prop := fun xs H Q => ∃ x c t u b, xs = [x, c] /\ RelV c u /\ TyOf K H x t /\ PySem.W.kitOne K t u = some b /\ Q (.bl b) H
def rTupOfK (K : PySem.W.Frag) : List V -> Hp -> VK -> Prop := fun xs H Q => ∃ p ys, xs = [.ref p] /\ ((SqL K H p ys /\ ∀ l, H l = none -> Q (.ref l) (upd H l (.tup ys))) \/ (SqT K H p ys /\ Q (.ref p) H))
theorem seq_abs {A B : TS} {D : Ends} {σ : St} {H : Hp} (h : ∀ M : St -> Hp -> Prop, (∀ σ H, B D σ H -> M σ H) -> A { D with nx := M } σ H) : tSeq A B D σ H := h _ fun _ _ z => z
section
variable {X : Cx} (K : PySem.W.Frag)
theorem ix_listK (h : X.K = K := by rfl) : IxR X (rIxL K) := h ▸ ix_list
theorem ix_tupK (h : X.K = K := by rfl) : IxR X (rIxT K) := h ▸ ix_tup
theorem sl_listK (h : X.K = K := by rfl) : SlR X (rSlL K) := h ▸ sl_list
theorem call_lenK (h : X.K = K := by rfl) : CallR X (.builtin "len") (rLenK K) := h ▸ call_len_seq
theorem call_isiK (h : X.K = K := by rfl) : CallR X (.builtin "isinstance") (rIsiK K) := h ▸ call_isinst
theorem call_tuple_ofK (h : X.K = K := by rfl) : CallR X (.type "tuple") (rTupOfK K) := h ▸ call_tuple_of
theorem op_eqSK (hu : X.A.units + 66 < cLine) (h : X.K = K := by rfl) : OpR X (compareOp .Eq) (rSame K true) := h ▸ op_eqS hu
theorem op_neSK (hu : X.A.units + 66 < cLine) (h : X.K = K := by rfl) : OpR X (compareOp .NotEq) (rSame K false) := h ▸ op_neS hu
theorem op_catAK (h : X.K = K := by rfl) : OpR X (binaryOp .Add) (rCatA K) := h ▸ op_catA
theorem pi_seqK {tg : Expr} (k : Kd) {l : Expr} {tl : TE} (hl : PE X l tl) (h : X.K = K := by rfl) : PI X tg l (iSeq k K tl) := h ▸ pi_seq k hl
theorem pg_tupK (n : Nat) {es : List Expr} {k : Nat} {t : TGs} {pos : Pos} (hc : X.calm = true) (h : PGs X es t)
    (hn : (assignEach es X.env).length = n := by rfl) (hst : (assignEach es X.env).findIdx? (·.1) = none := by rfl) (hK : X.K = K := by rfl) : PG X (.Tuple es k pos) (gTup K n t) := hK ▸ pg_tup hc h hn hst
end
section
variable {X : Cx}
end
structure Mk0 (K : PySem.W.Frag) (C : Addr) : Prop where
  makes : PySem.W.makesIn K C = true
  init : PySem.W.findIn K (.ref C) "__init__" = some (some (.builtin "object.__init__"))
  kp : PySem.W.keepIn K (.ref C) = true
theorem bind_oinit {M : Model} {h : Heap} (self : Value) : PySem.W.Looks M h (bindSpecial (.builtin "object.__init__") self) (.builtin "object.__init__", [self]) := fun A Q E s _ q => by
  have e : typeOf (.builtin "object.__init__") = (pure (.type "wrapper_descriptor") : Sem Value) := by first | rfl | decide
  unfold bindSpecial
  rw [e]
  refine wpAny_bind (wpAny_pure ?_)
  rw [if_pos (by decide)]
  exact wpAny_pure q
def tMakeE (C : Addr) : TE := fun σ H Q => ∀ x dx, H x = none -> H dx = none -> dx ≠ x -> Q (.ref x) (upd (upd H dx (.own x)) x (.ins C dx []))
section
variable {X : Cx}
theorem pe_makeE {C : Addr} {x : Str} {p pos : Pos} (M : Mk0 X.K C) (hg : Gl X x) (hm : X.mg x = some (.ref C)) (hdb : (x == ("__debug__" : Str)) = false := by decide) : PE X (.Call (.Name x p) [] [] pos) (tMakeE C) := by
  intro pins s σ H Q I h
  refine wpAny_Call_Name_kw (ld_glob I hg hm ?_ hdb)
  refine PySem.W.callWith_K0 I.kIn M.kp ?_
  have hq := h (s.heap.objs.size + 1) s.heap.objs.size (I.hok.fresh (Nat.le_succ _)) (I.hok.fresh (Nat.le_refl _)) (Nat.ne_of_lt (Nat.lt_succ_self _))
  have I2 := Inv.made (C := C) I
  refine wpAny_call (make_map0 I.kIn M.makes M.init bind_oinit ?_)
  refine codeAny_call_builtin (by decide +kernel) F.entry_object_init ?_
  have hx : ((s.heap.push PySem.W.emptyDict).push (PySem.W.instObj C s.heap.objs.size)).get? (s.heap.objs.size + 1) = some (PySem.W.instObj C s.heap.objs.size) := by
    have := Heap.get?_push_size (s.heap.push PySem.W.emptyDict) (o := PySem.W.instObj C s.heap.objs.size) rfl
    rw [Heap.size_push] at this
    exact this
  have mk := PySem.W.makes_of (M := model X.prog X.w) I2.kIn M.makes
  have li : PySem.W.Looks (model X.prog X.w) ((s.heap.push PySem.W.emptyDict).push (PySem.W.instObj C s.heap.objs.size)) (isInstance (.ref (s.heap.objs.size + 1)) (.type "object")) true := fun A' Q' E' s' hk q' => by
    have hx' := hk _ _ hx
    have tp := mk.top A' Q' E' s' hk q'
    unfold isInstance
    repeat (first | exact tp | (with_reducible refine wpAny_loadPart_at hx' ?_) | wp_step)
  refine PySem.W.check_slot (i := "object.__init__") (owner := "object") (n := "__init__") (by decide +kernel) (by decide +kernel) li (F.args_object_init_1 _) ?_
  show wpAny _ _ (PySem.ret PySem.Value.none) _ _ _
  refine wpAny_pure ?_
  exact ⟨rfl, .ref (s.heap.objs.size + 1), _, I2, rfl, hq⟩
end
def tMethA (X : Cx) (m : Str) (ta : TE) : TE := fun σ H Q => ta σ H fun x H1 => ∃ a C dx fs, x = .ref a /\ H1 a = some (.ins C dx fs) /\ fs.lookup m = none /\
  ∃ (k : Nat) (f : Addr) (fd : FuncData) (ps : List Str) (sp : Sp), Cls X.K C /\ Meth X.K C m f /\ FnOk X.prog X.w X.K X.mg X.base CX0 k f fd ps sp /\ Room k X.A /\ Binds X.K fd ps [] /\ sp [x] H1 Q E0
section
variable {X : Cx} {m : Str} {apos pos : Pos} {o : Expr} {ta : TE}
theorem pe_methA {pl : Sem Bool} (he : PE X o ta)
    (ht : eval (.Call (.Attribute o m apos) [] [] pos) X.env = (do
      let ov <- eval o X.env
      standAt apos.atName
      let (f, first) <- holding [ov] (getMethod ov m pl)
      callWith pos f first (backTo pos (starEach [] X.env)) (backToKw pos (keywordEach [] X.env))) := by rfl) :
    PE X (.Call (.Attribute o m apos) [] [] pos) (tMethA X m ta) := by
  intro pins s σ H Q I h
  refine PySem.W.methodCall_KW (pl := pl) (thn (he pins s σ H _ I h) fun u s1 ⟨x, H1, I1, rx, a, C, dx, fs, ex, ea, l, k, f, fd, ps, sp, c, hm, F, hr, hb, q⟩ => ?_) ht
  subst ex
  obtain rfl : u = Value.ref a := rx
  refine getmeth_ok I1 ea c hm l ?_
  exact PySem.W.callWith_K0 (first := [.ref a]) I1.kIn hm.kp (run_fn (us := [.ref a]) (vs := [.ref a]) F hr hb .nil pass0 I1 (.cons rfl .nil) q)
end
section
variable {X : Cx}
end
section
variable {X : Cx}
end
end L2
namespace L2
open PySem PySem.W PyProof.Rows
section
variable {X : Cx}
end
end L2
namespace L2
open PySem PySem.W PyProof.Rows
section
variable {prog : Program} {w : World} {A : Around} {E : Value -> Shared -> Prop} {s : Shared}
end
end L2
namespace L2
open PySem PySem.W PyProof.Rows
section
variable {X : Cx}
end
end L2
namespace L2
open PySem PySem.W PyProof.Rows
section
variable {X : Cx} {pos : Pos}
def gTupL (K : PySem.W.Frag) (n : Nat) (t : TGs) : TG := fun v σ H Q => ∃ a xs, v = .ref a /\ SqL K H a xs /\ xs.length = n /\ t xs σ H Q
theorem pg_tupL {es : List Expr} {k : Nat} {t : TGs} {n : Nat} (hc : X.calm = true) (h : PGs X es t)
    (hn : (assignEach es X.env).length = n := by rfl) (hst : (assignEach es X.env).findIdx? (·.1) = none := by rfl) : PG X (.Tuple es k pos) (gTupL X.K n t) := by
  intro pins s σ H v u Q I r hw
  obtain ⟨a, xs, e1, hq, hl, hw⟩ := hw
  subst e1
  cases r
  obtain ⟨its, rv, ht, hz⟩ := I.list hq
  rw [assign_Tuple]
  refine wpAny_bind (wpAny_standAt ?_)
  unfold unpack
  rw [show (assignEach es X.env).length = its.toArray.size by simp [hn, <- hl, rv.length], hst]
  refine wpAny_bind (wpAny_holding (PySem.W.kun_itemsOf (I.ok.hd hc) ht.isList fun h' hx => ?_))
  have I1 : Inv X pins σ H { s with heap := h' } := I.kept (t' := s.toks) fun b o e => hx b o (Nat.ne_of_lt (Heap.lt_size e)) e
  exact h pins _ σ H xs _ Q I1 (by simpa using rv) hw
end
end L2
namespace L2
open PySem PySem.SetTable
def nx (m i : Nat) : Nat := (i * 5 + 1) % (m + 1)
end L2
namespace L2
open PySem PySem.SetTable
def lv (m : Nat) (o : Array (Option Nat)) : List (Nat × Nat) := (List.range (m + 1)).filterMap fun j => (o.getD j none).map (j, ·)
end L2
namespace L2
open PySem PySem.SetTable
section
variable {prog : Program} {w : World} {A : Around} {E : Value -> Shared -> Prop} {s : Shared}
end
end L2
namespace L2
open PySem PySem.SetTable
section
variable {prog : Program} {w : World} {A : Around} {E : Value -> Shared -> Prop} {s : Shared} {a b : Addr} {o : Obj} {es : Array (Int × Value)} {ep : Nat} {t : SetTable} {kx : List Int}
end
end L2
namespace L2
open PySem PySem.SetTable PyProof.Rows
section
variable {prog : Program} {w : World} {G : Value -> List Int -> Prop} {A : Around} {E : Value -> Shared -> Prop} {s : Shared} {a b : Addr} {led : Bool} {kss : List (List Int)} {kx : List Int}
end
end L2
namespace L2
open PySem PySem.Spec PyProof.Rows
section
variable {prog : Program} {w : World} {A : Around} {R : Result -> Shared -> Prop} {I : Addr} {fp wr : List Addr} {G : Array GenState -> Array GenState -> Prop} {n : Nat} {P : Nat -> Value -> Prop} {St : Nat -> Shared -> Prop}
end
section
variable {prog : Program} {w : World} {A : Around} {E : Value -> Shared -> Prop} {s : Shared}
set_option maxHeartbeats 8000000 in
end
end L2
namespace L2
open PySem PySem.W PyProof.Rows
section
variable {prog : Program} {w : World} {A : Around} {E : Value -> Shared -> Prop} {s : Shared} {a : Addr} {kss : List (List Int)} {G : Value -> List Int -> Prop}
end
section
variable {X : Cx}
end
end L2
namespace L2
open PySem PySem.W PyProof.Rows
section
variable {X : Cx}
end
end L2
namespace L2
open PySem PySem.W PyProof.Rows
section
variable {X : Cx}
end
end L2
namespace L2
open PySem PySem.Spec PyProof.Rows PySem.W
end L2
namespace L2
open PySem PySem.Spec PyProof.Rows PySem.W
section
variable {P : Program} {w : World} {K : PySem.W.Frag} {mg : Str -> Option Value} {base : Heap} {N : List Str} {qual : Str} {scope : Scope} {f : Addr} {cd : Value} {A : Around} {outer : List Env} {s0 : Shared} {H0 : Hp} {E : XK}
end
section
variable {X : Cx}
end
section
variable {M : Model} {A : Around} {E : Value -> Shared -> Prop} {s : Shared}
end
section
variable {X : Cx}
end
end L2
namespace L2
open PySem PySem.Spec PyProof.Rows PySem.W
section
variable {K : Frag} {prog : Program} {w : World} {A : Around} {E : Value -> Shared -> Prop} {h : Heap} {g : Array GenState} {d : Drawn} {t : Nat} {os : OsState} {a C dx : Addr} {vs : Array Value} {sl : Array (Option Value)} {f : Str} {v : Value} {mA : Str -> Option Value} {cc : Value} {cdd : Option Addr} {cd : ClassData} {csl : Array (Option Value)}
end
section
variable {X : Cx} {e : Expr} {f : Str} {pos : Pos} {ta : TE}
end
end L2
namespace L2
open PySem PySem.Spec PyProof.Rows PySem.W
section
variable {K : Frag} {prog : Program} {w : World} {A : Around} {E : Value -> Shared -> Prop} {h : Heap} {g : Array GenState} {d : Drawn} {t : Nat} {os : OsState} {C fI : Addr} {oI : Obj} {bm : List Value}
end
end L2
namespace L2
open PySem PySem.Spec PyProof.Rows PySem.W PySem.Builtin PySem.Builtin.ObjectAttr
section
variable {K : Frag} {prog : Program} {w : World} {A : Around} {E : Value -> Shared -> Prop} {s : Shared} {a C : Addr} {vs : Array Value} {f : Str} {v : Value}
end
end L2
namespace L2
open PySem PySem.Spec PyProof.Rows PySem.W
section
variable {K : Frag} {prog : Program} {w : World} {A : Around} {E : Value -> Shared -> Prop} {h : Heap} {g : Array GenState} {d : Drawn} {t : Nat} {os : OsState} {e C : Addr} {bm : List Value}
end
section
variable {X : Cx}
end
end L2
namespace L2
open PySem PySem.Spec PyProof.Rows PySem.W
section
variable {P : Program} {w : World} {K : PySem.W.Frag} {mg : Str -> Option Value} {base : Heap} {N : List Str} {qual : Str} {scope : Scope} {f : Addr} {cd : Value} {A : Around} {outer : List Env} {s0 : Shared} {H0 : Hp} {E : XK}
end
section
variable {M : Model} {A : Around} {E : Value -> Shared -> Prop} {env : Env} {K : Frag} {C : Addr} {bm : List Value}
end
end L2
namespace L2
open PySem PySem.Spec PyProof.Rows PySem.W
section
variable {P : Program} {w : World} {K : PySem.W.Frag} {mg : Str -> Option Value} {base : Heap} {N : List Str} {qual : Str} {scope : Scope} {f : Addr} {cd : Value} {A : Around} {outer : List Env} {s0 : Shared} {H0 : Hp} {E : XK}
end
end L2
namespace L2
open PySem PySem.Spec PyProof.Rows
section
variable {prog : Program} {w : World} {A : Around} {R : Result -> Shared -> Prop} {s : Shared}
end
section
variable {X : Cx} {scope : Scope} {N' : List Str} {fr : List (Option Nat)} {pins : List (Addr × Obj)} {σ : St} {H : Hp} {s : Shared} {fp : List Addr} {it : Addr} {tn : Nat -> Heap -> Prop} {J : It}
  {elt tg iter : Expr} {ifs : List Expr} {g : TG} {tt : TT} {te : TE} {pos : Pos} {fin : List V -> Hp -> Prop} {W : Nat -> Nat -> List V -> St -> Hp -> Prop} {RR : Value -> Addr -> Result -> Shared -> Prop} {E : Value -> Shared -> Prop}
end
section
variable {M : Model} {A : Around} {E : Value -> Shared -> Prop} {s : Shared}
end
section
variable {P : Program} {w : World} {K : PySem.W.Frag} {mg : Str -> Option Value} {base : Heap} {N : List Str} {qual : Str} {scope0 : Scope} {f : Addr} {cd : Value} {A : Around} {outer : List Env} {s0 : Shared} {H0 : Hp} {E : XK}
variable {scope : Scope} {N' : List Str} {fr : List (Option Nat)} {elt tg iter : Expr} {ifs : List Expr} {g : TG} {tt : TT} {te : TE} {pos : Pos}
end
theorem toks_wp {α : Type} {M : Model} {Γ : PySem.Ctx} {E : Value -> Pos -> Shared -> Prop} : ∀ (t : Sem α) (Q : α -> Pos -> Shared -> Prop) (p : Pos) (s : Shared), Sem.wp M Γ t Q E p s -> Sem.wp M Γ t (fun a p' s' => Q a p' s' /\ s.toks <= s'.toks) E p s := by
  intro t
  induction t with
  | pure a => intro Q p s h; rw [Sem.wp] at h ⊢; exact ⟨h, Nat.le_refl _⟩
  | raise e => intro Q p s h; rw [Sem.wp] at h ⊢; exact h
  | unsupported _ => intro Q p s h; rw [Sem.wp] at h; exact h.elim
  | finish _ => intro Q p s h; rw [Sem.wp] at h; exact h.elim
  | rule t k ih => intro Q p s h; rw [Sem.wp] at h ⊢; exact ih () Q p s h
  | «at» p' k ih => intro Q p s h; rw [Sem.wp] at h ⊢; exact ih () Q p' s h
  | load a x k ih => intro Q p s h; rw [Sem.wp] at h ⊢; obtain ⟨o, e, h⟩ := h; exact ⟨o, e, ih o Q p s h⟩
  | update a x f k ih => intro Q p s h; rw [Sem.wp] at h ⊢; exact ⟨h.1, ih () Q p _ h.2⟩
  | alloc o k ih => intro Q p s h; rw [Sem.wp] at h ⊢; exact ih _ Q p _ h
  | loadIfAlive a k ih => intro Q p s h; rw [Sem.wp] at h ⊢; exact ih _ Q p s h
  | point l k ih => intro Q p s h; rw [Sem.wp] at h ⊢; exact ih () Q p s h
  | register a k ih => intro Q p s h; rw [Sem.wp] at h; exact h.elim
  | fresh k ih =>
    intro Q p s h
    rw [Sem.wp] at h ⊢
    exact Sem.wp_mono M Γ _ (fun a p1 s1 q => ⟨q.1, Nat.le_trans (Nat.le_succ _) q.2⟩) (fun _ _ _ q => q) _ _ (ih _ Q p _ h)
  | ask k ih => intro Q p s h; rw [Sem.wp] at h ⊢; exact ih _ Q p s h
  | choose a n k ih => intro Q p s h; rw [Sem.wp] at h ⊢; exact ⟨h.1, ih _ Q p _ h.2⟩
  | os a l k ih => intro Q p s h; rw [Sem.wp] at h ⊢; exact ih _ Q p _ h
  | call c hh g l k ih =>
    intro Q p s h
    rw [Sem.wp] at h ⊢
    obtain ⟨r, s', h1, h2⟩ := h
    exact ⟨r, s', h1, Sem.wp_mono M Γ _ (fun a p1 s1 q => ⟨q.1, Nat.le_trans h1.toks_le q.2⟩) (fun _ _ _ q => q) _ _ (ih _ Q p _ h2)⟩
  | handled o k ih => intro Q p s h; rw [Sem.wp] at h ⊢; exact ih _ Q p s h
  | newGen c k ih => intro Q p s h; rw [Sem.wp] at h ⊢; exact ih _ Q p _ h
  | genState g k ih => intro Q p s h; rw [Sem.wp] at h ⊢; obtain ⟨st, e, h⟩ := h; exact ⟨st, e, ih _ Q p s h⟩
  | resume g r l k ih =>
    intro Q p s h
    rw [Sem.wp] at h ⊢
    obtain ⟨r, s', h1, h2⟩ := h
    exact ⟨r, s', h1, Sem.wp_mono M Γ _ (fun a p1 s1 q => ⟨q.1, Nat.le_trans h1.toks_le q.2⟩) (fun _ _ _ q => q) _ _ (ih _ Q p _ h2)⟩
  | yield v g l k ih => intro Q p s h; rw [Sem.wp] at h; exact h.elim
  | stack k ih => intro Q p s h; rw [Sem.wp] at h ⊢; exact ih _ Q p s h
  | fork c k ih => intro Q p s h; rw [Sem.wp] at h; exact h.elim
  | thread k ih => intro Q p s h; rw [Sem.wp] at h ⊢; exact ih _ Q p s h
  | await a f d l k ih => intro Q p s h; rw [Sem.wp] at h; exact h.elim
theorem wpAny_toks {α : Type} {M : Model} {A : Around} {t : Sem α} {Q : α -> Shared -> Prop} {E : Value -> Shared -> Prop} {s : Shared} (h : wpAny M A t Q E s) : wpAny M A t (fun a s' => Q a s' /\ s.toks <= s'.toks) E s := fun Γ p g => toks_wp t _ p s (h Γ p g)
def Fresh {α : Type} (t : Sem α) : Prop := ∀ (M : Model) (Γ : PySem.Ctx) (Q : α -> Pos -> Shared -> Prop) (E : Value -> Pos -> Shared -> Prop) (p : Pos) (s : Shared), Sem.wp M Γ t Q E p s -> Sem.wp M Γ t (fun a p' s' => Q a p' s' /\ 1 <= s'.toks) E p s
theorem fresh_mk {i : Int} : Fresh (mkInt i) := fun M Γ Q E p s z => by
  rw [Sem.wp_cmd_mkInt] at z ⊢
  exact ⟨z, Nat.le_add_left _ _⟩
theorem fresh_left {α β : Type} {t : Sem α} {f : α -> Sem β} (h : Fresh t) : Fresh (t >>= f) := fun M Γ Q E p s w => by
  rw [Sem.wp_bind'] at w ⊢
  exact Sem.wp_mono M Γ _ (fun a p1 s1 ⟨q1, q2⟩ => Sem.wp_mono M Γ _ (fun b p2 s2 ⟨q3, q4⟩ => ⟨q3, Nat.le_trans q2 q4⟩) (fun _ _ _ q => q) _ _ (toks_wp _ _ _ _ q1)) (fun _ _ _ q => q) _ _ (h M Γ _ E p s w)
theorem fresh_right {α β : Type} {t : Sem α} {f : α -> Sem β} (h : ∀ a, Fresh (f a)) : Fresh (t >>= f) := fun M Γ Q E p s w => by
  rw [Sem.wp_bind'] at w ⊢
  exact Sem.wp_mono M Γ _ (fun a p1 s1 q1 => h a M Γ Q E p1 s1 q1) (fun _ _ _ q => q) _ _ w
theorem wpAny_fresh {α : Type} {M : Model} {A : Around} {t : Sem α} {Q : α -> Shared -> Prop} {E : Value -> Shared -> Prop} {s : Shared} (hf : Fresh t) (h : wpAny M A t Q E s) : wpAny M A t (fun a s' => Q a s' /\ 1 <= s'.toks) E s := fun Γ p g => hf M Γ _ _ p s (h Γ p g)
theorem fresh_hold {α : Type} {l : List Value} {t : Sem α} (h : Fresh t) : Fresh (holding l t) := fun M Γ Q E p s w => by
  rw [Sem.wp_holding] at w ⊢
  exact h M Γ Q E p s w
end L2
namespace L2
open PySem PySem.Spec PyProof.Rows PySem.Builtin PySem.Builtin.Str
section
variable {X : Cx}
end
end L2
namespace L2
open PySem PySem.Spec PyProof.Rows
section
variable {X : Cx}
theorem bools_is : ∀ {bs : List Bool} {its : List Value}, Vals (bs.map V.bl) its -> its = bs.map Value.bool
  | [], _, .nil => rfl
  | b :: r, _, .cons p q => by
    have e : _ = Value.bool b := p
    rw [e, bools_is q]
    rfl
def isB (v : Value) : Bool := v == .bool true
theorem eqB {A : Around} {s : Shared} (b : Bool) : SeqAt.EqAt A s (.bool b) (.bool true) (isB (.bool b)) := by
  have := eqAt_V (A := A) (s := s) (y := .bl b) (x := .bl true) rfl rfl rfl rfl
  cases b <;> exact this
def rCountB : V -> List V -> Hp -> VK -> Prop := fun x vs H Q => ∃ (l : Addr) (bs : List Bool), x = .ref l /\ vs = [.bl true] /\ H l = some (.lst (bs.map V.bl)) /\ Q (.int ((bs.count true : Nat) : Int)) H
theorem mt_countB : MtR X "list.count" rCountB := by
  intro pins s σ H x vs v us Q I rx rv h
  obtain ⟨l, bs, rfl, rfl, hH, q⟩ := h
  cases rx
  obtain ⟨u, rfl, ru⟩ := rv.one
  cases (show u = Value.bool true from ru)
  obtain ⟨z, its, n, r, hl, e⟩ := I.lstM hH
  have eb := bools_is r
  subst eb
  refine call_meets F.slot_list_count ⟨_, e, rfl⟩ F.entry_list_count (F.args_list_count_2 _ _) (SeqAt.list_countAt l (bs.map Value.bool).toArray n none #[] (.bool true) isB) ⟨e, ?_, ?_⟩
  · intro y hy
    obtain ⟨b, _, rfl⟩ := List.mem_map.mp (show y ∈ bs.map Value.bool by simpa using hy)
    exact eqB b
  · refine ⟨.int _, H, I.tok _, ⟨_, rfl⟩, ?_⟩
    have ec : ((bs.map Value.bool).toArray.toList.countP isB) = bs.count true := by
      show (bs.map Value.bool).countP isB = _
      rw [List.countP_map]
      unfold List.count
      congr 1
      funext b
      cases b <;> rfl
    rw [ec]
    exact q
def rIndexB : V -> List V -> Hp -> VK -> Prop := fun x vs H Q => ∃ (l : Addr) (bs : List Bool) (j : Nat), x = .ref l /\ vs = [.bl true] /\ H l = some (.lst (bs.map V.bl)) /\ bs.length <= 1000 /\ bs[j]? = some true /\ (∀ m, m < j -> bs[m]? = some false) /\ Q (.int (j : Int)) H
theorem mt_indexB : MtR X "list.index" rIndexB := by
  intro pins s σ H x vs v us Q I rx rv h
  obtain ⟨l, bs, j, rfl, rfl, hH, hz, hj, hno, q⟩ := h
  cases rx
  obtain ⟨u, rfl, ru⟩ := rv.one
  cases (show u = Value.bool true from ru)
  obtain ⟨z, its, n, r, hl, e⟩ := I.lstM hH
  have eb := bools_is r
  subst eb
  have jl : j < bs.length := (List.getElem?_eq_some_iff.mp hj).1
  refine call_meets F.slot_list_index ⟨_, e, rfl⟩ F.entry_list_index (F.args_list_index_2 _ _) (SeqAt.list_indexAt l (bs.map Value.bool).toArray n none #[] (.bool true) isB j (by simpa using jl) (by omega) ?_ ?_) ⟨e, (fun y hy => by
      obtain ⟨b, _, rfl⟩ := List.mem_map.mp (show y ∈ bs.map Value.bool by simpa using hy)
      exact eqB b), ?_⟩
  · have : bs[j] = true := (List.getElem?_eq_some_iff.mp hj).2
    simp [isB, this]
  · intro m hm hmj
    have : bs[m]'(by simpa using hm) = false := (List.getElem?_eq_some_iff.mp (hno m hmj)).2
    simp [isB, this]
  · exact ⟨.int _, H, I.tok _, ⟨_, rfl⟩, q⟩
end
def DzAt (H : Hp) (d : Addr) (kvs : TTab) : Prop := H d = some (.dT kvs) \/ ∃ o, H d = some (.frz o (.dT kvs))
section
variable {X : Cx} {pins : List (Addr × Obj)} {σ : St} {H : Hp} {s : Shared} {d : Addr} {kvs : TTab}
theorem DzAt.raw (I : Inv X pins σ H s) (h : DzAt H d kvs) : ∃ o es ep, s.heap.get? d = some o /\ o.ExactDict /\ o.data = .dict es ep /\ (d == sysModules) = false /\ es.size = kvs.length := by
  rcases h with h | ⟨q, h⟩
  · obtain ⟨o, es, ep, g, h1, h2, y, hn, _⟩ := I.freeze h
    exact ⟨o, es, ep, g, h1, h2, y, hn⟩
  · obtain ⟨g, z, y, xs, r, o', es, ep, g', h1, h2, h3, _⟩ := I.hok d _ h
    refine ⟨o', es, ep, g', h1, h2, y, ?_⟩
    have := congrArg List.length h3
    rw [List.length_map, <- Paired.length r] at this
    simpa using this
theorem DzAt.freeze (I : Inv X pins σ H s) (h : DzAt H d kvs) : ∃ o es ep H2, s.heap.get? d = some o /\ o.ExactDict /\ o.data = .dict es ep /\ (d == sysModules) = false /\ es.size = kvs.length /\ Inv X pins σ H2 s /\ H2 d = some (.frz o (.dT kvs)) /\ ∀ b, b ≠ d -> H2 b = H b := by
  rcases id h with h' | ⟨q, h'⟩
  · obtain ⟨o, es, ep, g, h1, h2, y, hn, I2⟩ := I.freeze h'
    exact ⟨o, es, ep, _, g, h1, h2, y, hn, I2, upd_same, fun b hb => upd_ne hb⟩
  · obtain ⟨o, es, ep, g, h1, h2, y, hn⟩ := h.raw I
    obtain ⟨g', _⟩ := frz_raw I h'
    rw [g] at g'
    cases g'
    exact ⟨_, es, ep, H, g, h1, h2, y, hn, I, h', fun _ _ => rfl⟩
end
section
variable {X : Cx} {o : Expr} {to : TE} {apos cpos : Pos}
def tItE (to : TE) : TE := fun σ H Q => to σ H fun x H1 => ∃ d kvs, x = .ref d /\ DzAt H1 d kvs /\ ∀ v, H1 v = none -> Q (.ref v) (upd H1 v (viewO v d))
theorem pe_itemsE (ho : PE X o to) (hbase : attributeBase o "items" X.env (eval o X.env) = eval o X.env := by rfl) (hline : (apos.endLine == cpos.line) = true := by rfl) : PE X (.Call (.Attribute o "items" apos) [] [] cpos) (tItE to) := by
  intro pins s σ H Q I h
  refine wpAny_Call_method0_late hbase hline (thn (ho pins s σ H _ I h) fun v s1 ⟨x, H1, I1, r1, d, kvs, ex, hd, q1⟩ => ?_)
  subst ex
  cases (show v = Value.ref d from r1)
  obtain ⟨ob, es, ep, g, h1, h2, y, hn⟩ := hd.raw I1
  refine ⟨"dict", "dict.items", PySem.F.plainAttrs_dict, PySem.F.slot_dict_items, PySem.F.type_dict_items, ⟨ob, g, h1.1⟩, (fun b eb => by cases eb; exact ⟨ob, g, h1.2.1⟩), Calls.callWith_builtin rfl (PySem.evalArgs_none ?_)⟩
  refine items_call y g h1 ⟨.ref s1.heap.objs.size, _, I1.laid (t' := s1.toks) (o := viewO s1.heap.objs.size d) (fun b ob q => Heap.get?_push_of_some _ q) (Nat.le_refl _) ?_, rfl, q1 _ (I1.hok.fresh (Nat.le_refl _))⟩
  exact ⟨⟨_, Heap.get?_push_size _ rfl, rfl, rfl⟩, ⟨_, Heap.get?_push_size _ rfl⟩, fun h1 h2 p k => let ⟨u, e, r⟩ := p; ⟨u, k _ e, r⟩⟩
def iDIE (tv : TE) : TI := fun σ H R => tv σ H fun x H1 => ∃ v d kvs, x = .ref v /\ H1 v = some (viewO v d) /\ DzAt H1 d kvs /\ ∀ o H2, H2 d = some (.frz o (.dT kvs)) -> (∀ b, b ≠ d -> H2 b = H1 b) -> R (ItDI d o kvs) H2
theorem pi_ditemsE {elts : List Expr} {x1 : Nat} {tpos : Pos} {l : Expr} {tl : TE} (hl : PE X l tl) : PI X (.Tuple elts x1 tpos) l (iDIE tl) := by
  intro pins s σ H R I h
  refine thn (hl pins s σ H _ I h) fun u s1 ⟨x, H1, I1, r1, q1⟩ => ?_
  obtain ⟨v, d, kvs, rfl, hv, hq, q⟩ := q1
  cases (show u = Value.ref v from r1)
  obtain ⟨vw, _⟩ := I1.hok v _ hv
  obtain ⟨o, es, ep, H2, g, y1, y2, y, hn, I2, e2, f2⟩ := hq.freeze I1
  refine items_iter vw g y2 ?_
  refine ⟨s1.heap.objs.size, [s1.heap.objs.size], _, _, H2, rfl, I2.kept (t' := s1.toks) fun b o e => Heap.get?_push_of_some _ e, turn_di d _ o es ep kvs y2 hn, ⟨_, _, Heap.get?_push_size _ rfl⟩, fun b hb => ?_, q o H2 e2 f2⟩
  have e : b = s1.heap.objs.size := by simpa using hb
  subst e
  exact I2.fpOk (Nat.le_refl _) (I2.hok.fresh (Nat.le_refl _))
end
theorem for_di {d : Addr} {o : Obj} {kvs : TTab} {g : TG} {tb : TS} {D : Ends} {σ : St} {H : Hp} (Pv : Nat -> St -> Hp -> Prop) (h0 : Pv 0 σ H) (hl : ∀ i σ H, Pv i σ H -> H d = some (.frz o (.dT kvs)))
    (hs : ∀ (i : Nat) (T b : Addr) (k : List Key) (v : V) (σ : St) (H : Hp), kvs[i]? = some (k, v) -> H T = none -> H b = some (.tup (k.map kV)) -> Pv i σ H -> g (.ref T) σ (upd H T (.tup [.ref b, v])) fun σ2 H2 => tb { D with nx := Pv (i + 1), ct := Pv (i + 1), bk := D.nx } σ2 H2) (hd : ∀ σ H, Pv kvs.length σ H -> D.nx σ H) :
    ∃ W : Nat -> Nat -> St -> Hp -> Prop, (∃ m, W 0 m σ H) /\ ∀ i m σ H, W i m σ H ->
      ((ItDI d o kvs).stop i H /\ D.nx σ H) \/ ((ItDI d o kvs).go i H /\ ∃ N : St -> Hp -> Prop, (∀ σ' H', N σ' H' -> ∃ m', m' < m /\ W (i + 1) m' σ' H') /\ ∀ x H', (ItDI d o kvs).yld i H x H' -> g x σ H' fun σ2 H2 => tb { D with nx := N, ct := N, bk := D.nx } σ2 H2) := by
  refine ⟨fun i m σ H => m = kvs.length - i /\ i <= kvs.length /\ Pv i σ H, ⟨kvs.length, by simp, Nat.zero_le _, h0⟩, ?_⟩
  rintro i m σ H ⟨rfl, hi, p⟩
  have q := hl i σ H p
  by_cases hlt : i < kvs.length
  · refine .inr ⟨⟨q, hlt⟩, Pv (i + 1), fun σ' H' p' => ⟨kvs.length - (i + 1), by lia, rfl, hlt, p'⟩, fun x H' y => ?_⟩
    obtain ⟨T, b, k, v, rfl, hT, ek, eb, rfl⟩ := y
    exact hs i T b k v σ _ ek hT eb p
  · have e : i = kvs.length := by lia
    subst e
    exact .inl ⟨⟨q, Nat.le_refl _⟩, hd σ H p⟩
end L2
namespace L2
open PySem PySem.Spec PyProof.Rows PySem.W
section
variable {P : Program} {w : World} {K : PySem.W.Frag} {mg : Str -> Option Value} {base : Heap} {k : Nat} {x : Str} {ps : List Str} {sp : Sp}
end
section
variable {X : Cx}
end
end L2
namespace L2
open PySem PySem.Spec PyProof.Rows
section
variable {X : Cx}
end
section
variable {P : Program} {w : World} {K : PySem.W.Frag} {mg : Str -> Option Value} {base : Heap} {k : Nat} {x : Str} {ps : List Str} {sp : Sp}
end
end L2
namespace L2
open PySem PySem.Spec PyProof.Rows PySem.W
section
variable {X : Cx}
end
end L2
namespace L2
open PySem PySem.Spec PyProof.Rows
section
variable {prog : Program} {w : World} {A : Around} {E : Value -> Shared -> Prop} {s : Shared} {a : Addr} {led : Bool} {ns : List Int}
end
--T3
section
variable {prog : Program} {w : World} {A : Around} {R : Result -> Shared -> Prop} {I : Addr} {fp wr : List Addr} {G : Array GenState -> Array GenState -> Prop} {n : Nat} {P : Nat -> Value -> Prop} {St : Nat -> Shared -> Prop}
end
section
variable {prog : Program} {w : World} {A : Around} {E : Value -> Shared -> Prop} {s : Shared}
end
section
variable {prog : Program} {w : World} {A : Around} {E : Value -> Shared -> Prop} {s : Shared} {a : Addr}
end
section
variable {X : Cx}
end
end L2
namespace L2
open PySem PySem.Spec PyProof.Rows PySem.W
section
variable {P : Program} {w : World} {K : PySem.W.Frag} {mg : Str -> Option Value} {base : Heap} {k : Nat} {x : Str} {ps : List Str} {sp : Sp}
end
end L2
namespace L2
open PySem PySem.Spec PyProof.Rows
abbrev KTab := List (Key × V)
section
variable {X : Cx} {pins : List (Addr × Obj)} {σ : St} {H : Hp} {s : Shared} {d : Addr} {kvs : KTab}
end
section
variable {X : Cx} {o : Expr} {to : TE} {apos cpos : Pos}
end
end L2
namespace L2
open PySem PySem.W PyProof.Rows
theorem lexA : ∀ {a b : List Int}, HT.lexLt b a = false -> HT.lexLt a b = false -> a = b
  | [], [], _, _ => rfl
  | [], _ :: _, _, h => by cases h
  | _ :: _, [], h, _ => by cases h
  | x :: xs, y :: ys, h1, h2 => by
    rw [HT.lexLt_cons] at h1 h2
    by_cases e : x = y
    · subst e
      rw [if_pos rfl] at h1 h2
      rw [lexA h1 h2]
    · rw [if_neg (fun z => e z.symm)] at h1
      rw [if_neg e] at h2
      have a1 := of_decide_eq_false h1
      have a2 := of_decide_eq_false h2
      exact absurd (Int.le_antisymm (Int.not_lt.mp a1) (Int.not_lt.mp a2)) e
def nLt : List (List Int) -> List (List Int) -> Bool
  | [], [] => false
  | [], _ :: _ => true
  | _ :: _, [] => false
  | k :: ks, m :: ms => if k = m then nLt ks ms else HT.lexLt k m
theorem nLt_cons (k m : List Int) (ks ms : List (List Int)) : nLt (k :: ks) (m :: ms) = if k = m then nLt ks ms else HT.lexLt k m := rfl
theorem nLt_as : ∀ (a b : List (List Int)), nLt a b = true -> nLt b a = false
  | [], [], _ => rfl
  | [], _ :: _, _ => rfl
  | _ :: _, [], h => by cases h
  | k :: ks, m :: ms, h => by
    rw [nLt_cons] at h ⊢
    by_cases e : k = m
    · rw [if_pos e] at h
      rw [if_pos e.symm]
      exact nLt_as ks ms h
    · rw [if_neg e] at h
      rw [if_neg (fun z => e z.symm)]
      exact lex_as k m h
theorem nLt_tr : ∀ (a b c : List (List Int)), nLt b a = false -> nLt c b = false -> nLt c a = false
  | _, [], [], h1, _ => h1
  | [], _ :: _, [], _, h2 => by cases h2
  | [], _, _ :: _, _, _ => rfl
  | _ :: _, [], _ :: _, h1, _ => by cases h1
  | _ :: _, _ :: _, [], _, h2 => by cases h2
  | p :: ps, m :: ms, k :: ks, h1, h2 => by
    rw [nLt_cons] at h1 h2 ⊢
    by_cases e1 : m = p
    · rw [if_pos e1] at h1
      subst e1
      by_cases e2 : k = m
      · rw [if_pos e2] at h2 ⊢
        exact nLt_tr ps ms ks h1 h2
      · rw [if_neg e2] at h2 ⊢
        exact h2
    · rw [if_neg e1] at h1
      by_cases e2 : k = m
      · rw [if_pos e2] at h2
        subst e2
        rw [if_neg e1]
        exact h1
      · rw [if_neg e2] at h2
        by_cases e3 : k = p
        · subst e3
          exact absurd (lexA h1 h2).symm e1
        · rw [if_neg e3]
          exact lex_tr p m k h1 h2
theorem nLt_anti : ∀ {a b : List (List Int)}, nLt b a = false -> nLt a b = false -> a = b
  | [], [], _, _ => rfl
  | [], _ :: _, _, h => by cases h
  | _ :: _, [], h, _ => by cases h
  | k :: ks, m :: ms, h1, h2 => by
    rw [nLt_cons] at h1 h2
    by_cases e : k = m
    · rw [if_pos e.symm] at h1
      rw [if_pos e] at h2
      rw [e, nLt_anti h1 h2]
    · rw [if_neg (fun z => e z.symm)] at h1
      rw [if_neg e] at h2
      exact absurd (lexA h1 h2) e
theorem nLt_ord (L : List (List (List Int))) : Ord fun i j => nLt (L.getD i []) (L.getD j []) := ⟨fun _ _ h => nLt_as _ _ h, fun _ _ _ h1 h2 => nLt_tr _ _ _ h1 h2⟩
def NLe (a b : List (List Int)) : Prop := nLt b a = false
theorem nLe_eq {l m : List (List (List Int))} (p : l.Perm m) (h1 : l.Pairwise NLe) (h2 : m.Pairwise NLe) : l = m := List.Perm.eq_of_pairwise (fun _ _ _ _ z1 z2 => nLt_anti z1 z2) h1 h2 p
section
variable {prog : Program} {w : World} {A : Around} {E : Value -> Shared -> Prop} {s : Shared}
theorem items_of_ints : ∀ {us : List Value} {ks : List Int}, IntsAre us ks -> ItemsAre (intKind prog w) ks us
  | _, _, .nil => .nil
  | _, _, .cons n t h => .cons (show Value.isInt n (Value.int n t) = true from by show (n == n) = true; exact beq_self_eq_true n) (items_of_ints h)
theorem TupI.key {h : Heap} {a : Addr} {ks : List Int} (x : TupI h (.ref a) ks) : IsTupleKey (intKind prog w) h ks a := by
  obtain ⟨b, o, xs, n, e, g, hc, hd, hi⟩ := x
  cases e
  exact ⟨o, xs, n, g, hc, hd, items_of_ints hi⟩
def TupN (h : Heap) (v : Value) (kss : List (List Int)) : Prop := ∃ a o xs n, v = .ref a /\ h.get? a = some o /\ o.cls = .type "tuple" /\ o.data = .seq xs n /\ Paired (TupI h) xs.toList kss
theorem TupN.kept {h h' : Heap} {v : Value} {kss : List (List Int)} (x : TupN h v kss) (k : ∀ b u, h.get? b = some u -> h'.get? b = some u) : TupN h' v kss := let ⟨a, o, xs, n, e, g, c, d, r⟩ := x; ⟨a, o, xs, n, e, k _ _ g, c, d, Paired.mapP r fun _ _ z => z.kept k⟩
def lexN (fin : Bool) : List (List Int) -> List (List Int) -> Bool
  | k :: ks, m :: ms => if k = m then lexN fin ks ms else HT.lexLt k m
  | _, _ => fin
theorem lexN_eq : ∀ (a b : List (List Int)), lexN (decide (a.length < b.length)) a b = nLt a b
  | [], [] => rfl
  | [], _ :: _ => by show decide (0 < _ + 1) = true; simp
  | _ :: _, [] => by show decide (_ + 1 < 0) = false; simp
  | k :: ks, m :: ms => by
    show (if k = m then lexN _ ks ms else _) = _
    rw [nLt_cons]
    have : decide ((k :: ks).length < (m :: ms).length) = decide (ks.length < ms.length) := decide_eq_decide.mpr ⟨Nat.lt_of_succ_lt_succ, Nat.succ_lt_succ⟩
    rw [this, lexN_eq ks ms]
theorem tups_lex {fin : Bool} {Q : Bool -> Shared -> Prop} (hu : A.units < cLine) : ∀ {us : List Value} {ks : List (List Int)} {ws : List Value} {ms : List (List Int)} (i : Nat), Paired (TupI s.heap) us ks -> Paired (TupI s.heap) ws ms -> Q (lexN fin ks ms) s -> KatLex prog w A false fin Q (us.zip ws) i s
  | _, _, _, _, _, .nil, _, q => kat_nil (by cases ‹List (List Int)› <;> exact q)
  | _, _, _, _, _, .cons _ _, .nil, q => kat_nil q
  | _, _, _, _, i, .cons (b := k) (l₂ := ks) h1 t1, .cons (b := m) (l₂ := ms) h2 t2, q => by
    obtain ⟨a, o, xs, n, rfl, g, hc, hd, hi⟩ := id h1
    obtain ⟨b, o2, ys, n2, rfl, g2, hc2, hd2, hi2⟩ := id h2
    refine kat_cons (wpAny_eqBool_tuple (knd := intKind prog w) hu h1.key h2.key (kat_go (fun e => kat_yes (tups_lex hu (i + 1) t1 t2 ?_)) fun e => kat_no ?_))
    · have : k = m := of_decide_eq_true e
      have z : lexN fin (k :: ks) (m :: ms) = lexN fin ks ms := by show (if k = m then _ else _) = _; rw [if_pos this]
      rw [z] at q; exact q
    · have : ¬ k = m := of_decide_eq_false e
      have z : lexN fin (k :: ks) (m :: ms) = HT.lexLt k m := by show (if k = m then _ else _) = _; rw [if_neg this]
      rw [z] at q
      exact kat_one _ _ (HT.lt_tupInts ⟨o, g, hc, n, hd⟩ ⟨o2, g2, hc2, n2, hd2⟩ hi hi2 hu q)
theorem tupN_firsts {h : Heap} : ∀ {vs : List Value} {L : List (List (List Int))}, Paired (TupN h) vs L -> (∀ kss ∈ L, kss ≠ []) -> ∃ fs, KatTups h vs fs /\ fs.length = vs.length /\ ∀ f ∈ fs, ∃ a o, f = .ref a /\ h.get? a = some o /\ o.cls = .type "tuple"
  | _, _, .nil, _ => ⟨[], .nil, rfl, fun f hf => nomatch hf⟩
  | _, _, .cons (b := kss) r t, hne => by
    obtain ⟨fs, k, l, a⟩ := tupN_firsts t fun ks hk => hne ks (List.mem_cons_of_mem _ hk)
    obtain ⟨ad, o, xs, n, rfl, g, hc, hd, hi⟩ := r
    cases kss with
    | nil => exact absurd rfl (hne _ (List.mem_cons_self ..))
    | cons x kss =>
      obtain ⟨y, ey, c, oc, ys, nc, rfl, gc, hcc, hdc, hic⟩ : ∃ y, xs.toList[0]? = some y /\ TupI h y x := by
        generalize xs.toList = L at hi
        cases hi with
        | cons r1 r2 => exact ⟨_, rfl, r1⟩
      refine ⟨.ref c :: fs, .cons g hc hd (by rw [Array.getElem?_toList] at ey; exact ey) k, by simp [l], fun f hf => ?_⟩
      rcases List.mem_cons.mp hf with rfl | hf
      · exact ⟨c, oc, rfl, gc, hcc⟩
      · exact a f hf
def AsksA (prog : Program) (w : World) (A : Around) (s : Shared) (lt : Nat -> Nat -> Bool) (vs : List Value) : Prop :=
  ∀ (h' : Heap), (∀ b u, s.heap.get? b = some u -> h'.get? b = some u) -> 2 <= vs.length -> ∃ κ : SortKind, (∀ (E : Value -> Shared -> Prop) (Q : SortKind -> Shared -> Prop), Q κ { s with heap := h' } -> wpAny (model prog w) A (keyKind' vs.toArray) Q E { s with heap := h' }) /\
    ∀ (i j : Nat) (C : Bool -> Shared -> Prop), i < vs.length -> j < vs.length -> C (lt i j) { s with heap := h' } -> wpAny (model prog w) A (keyLt' κ (vs.getD i Value.none) (vs.getD j Value.none)) C (fun _ _ => False) { s with heap := h' }
theorem asks_nest {vs : List Value} {L : List (List (List Int))} (hu : A.units < cLine) (h : Paired (TupN s.heap) vs L) (hne : ∀ kss ∈ L, kss ≠ []) : AsksA prog w A s (fun i j => nLt (L.getD i []) (L.getD j [])) vs := by
  intro h' keep two
  have h2 : Paired (TupN h') vs L := Paired.mapP h fun _ _ x => x.kept keep
  refine ⟨tuples' false, fun E Q q => ?_, fun i j C hi hj q => ?_⟩
  · obtain ⟨fs, k, l, a⟩ := tupN_firsts h2 hne
    have e : (Value.type "tuple" != Value.type "tuple") = false := by decide
    refine kat_kind (T := .type "tuple") k (by lia) (fun f hf => ?_) (by decide) (by rw [e]; exact q)
    obtain ⟨c, o, rfl, g, hc⟩ := a f hf
    rw [<- hc]
    exact (Looks.ld g).andThen .now
  · have gi : ∀ i, i < vs.length -> ∃ v kss, vs.getD i Value.none = v /\ L.getD i [] = kss /\ TupN h' v kss := fun i hi => by
      obtain ⟨kss, e, r⟩ := Paired.at h2 (i := i) (a := vs[i]) (by simp [hi])
      exact ⟨vs[i], kss, by simp [hi], by rw [List.getD_eq_getElem?_getD, e]; rfl, r⟩
    obtain ⟨v, ks, ev, ek, a, o, xs, n, rfl, g, _, hd, hI⟩ := gi i hi
    obtain ⟨u, ms, eu, em, b, o2, ys, n2, rfl, g2, _, hd2, hI2⟩ := gi j hj
    rw [ev, eu]
    refine kat_lt (s := { s with heap := h' }) g hd g2 hd2 (tups_lex (s := { s with heap := h' }) hu 0 hI hI2 ?_)
    have l1 : xs.size = ks.length := by have := Paired.length hI; simpa using this
    have l2 : ys.size = ms.length := by have := Paired.length hI2; simpa using this
    rw [l1, l2, lexN_eq]
    have q' : C (nLt (L.getD i []) (L.getD j [])) { s with heap := h' } := q
    rw [ek, em] at q'
    exact q'
theorem sorted_genA {l : Addr} {vs : List Value} {lt : Nat -> Nat -> Bool} {Q : Value -> Shared -> Prop} (hl : s.heap.IsList l vs.toArray) (o : Ord lt) (hbig : vs.length <= 1000000) (ask : ∀ A' : Around, A'.units <= A.units + 4 -> AsksA prog w A' s lt vs)
    (q : ∀ p, PB vs.length p -> Up lt p vs.length -> Q (.ref (s.heap.objs.size + 1)) { s with heap := sortedAll s.heap vs (outOf vs p).toArray }) : wpAny (model prog w) A (call (.builtin "sorted") [.ref l]) Q E s := by
  refine Calls.call_function_entry kind_sorted plain_sorted entry_sorted (args_sorted1 _) ?_
  unfold Builtin.«sorted»
  refine wpAny_bind (m := checkCount "sorted" 1 1 _) (wpAny_pure (wpAny_bind (collect_list hl (wpAny_bind (wpAny_newList ?_ (by rw [sizeLine_eq]; omega))) (by rw [sizeLine_eq]; omega))))
  have z1 : ((s.heap.push (seqObj "list" #[] 0)).update s.heap.objs.size (Obj.mapSeq (· ++ vs.toArray))).objs.size = s.heap.objs.size + 1 := by rw [Heap.size_update, size_push']
  have oL : (((s.heap.push (seqObj "list" #[] 0)).update s.heap.objs.size (Obj.mapSeq (· ++ vs.toArray))).push (seqObj "list" vs.toArray 0)).get? (s.heap.objs.size + 1) = some (seqObj "list" vs.toArray 0) := by
    rw [<- z1]; exact Heap.get?_push_size _ rfl
  have keep : ∀ b u, s.heap.get? b = some u -> (((s.heap.push (seqObj "list" #[] 0)).update s.heap.objs.size (Obj.mapSeq (· ++ vs.toArray))).push (seqObj "list" vs.toArray 0)).get? b = some u := fun b u z => by
    have lb : b < s.heap.objs.size := Heap.lt_size z
    exact Heap.get?_push_of_some _ (by rw [Heap.get?_update_ne _ _ _ _ (Nat.ne_of_lt lb)]; exact Heap.get?_push_of_some _ z)
  show wpAny _ _ _ _ _ { s with heap := ((s.heap.push (seqObj "list" #[] 0)).update s.heap.objs.size (Obj.mapSeq (· ++ vs.toArray))).push (seqObj "list" vs.toArray 0) }
  rw [z1]
  have u2 : A.in1.in1.units <= A.units + 4 := by
    have a := in1_units (A := A)
    have b := in1_units (A := A.in1)
    omega
  refine wpAny_bind (wpAny_holding (wpAny_call_entry slot_list_sort ⟨_, oL, rfl⟩ entry_list_sort (sort_bodyG oL o hbig (fun two h' k => ask _ u2 h' (fun b u z => k b u (fun e => ?_) (keep b u z)) two) fun p pb up => ⟨_, rfl, ?_⟩) (args_list_sort _)))
  · exact absurd (Heap.lt_size z) (by rw [e]; exact Nat.not_lt.mpr (Nat.le_succ _))
  · exact wpAny_pure ⟨_, rfl, q p pb up⟩
end
def NestAt (H : Hp) (v : V) (kss : List (List Int)) : Prop := ∃ a ys, v = .ref a /\ H a = some (.tup ys) /\ Paired (IntsAt H) ys kss
theorem NestAt.same {H H' : Hp} {v : V} {kss : List (List Int)} (h : NestAt H v kss) (e : Same H H') : NestAt H' v kss := let ⟨a, ys, h1, h2, h3⟩ := h; ⟨a, ys, h1, e _ _ h2, Paired.mapP h3 fun _ _ z => z.same e⟩
section
variable {X : Cx}
def rSortedN (K : PySem.W.Frag) : List V -> Hp -> VK -> Prop := fun xs H Q => ∃ (p : Addr) (rs : List V) (L : List (List (List Int))), xs = [.ref p] /\ SqL K H p rs /\ rs.length <= 1000000 /\ Paired (NestAt H) rs L /\ (∀ kss ∈ L, kss ≠ []) /\
  ∀ (l : Addr) (rs' : List V) (L' : List (List (List Int))), Paired (NestAt H) rs' L' -> L'.Perm L -> L'.Pairwise NLe -> H l = none -> Q (.ref l) (upd H l (.lst rs'))
theorem call_sortedN (hu : X.A.units + 66 < cLine) : CallR X (.builtin "sorted") (rSortedN X.K) := by
  intro pins s σ H xs us Q I r h
  obtain ⟨p, rs, kss, rfl, hp, hn, hk, hne, q⟩ := h
  obtain ⟨u, rfl, ru⟩ := Vals.one r
  cases (show u = Value.ref p from ru)
  obtain ⟨its, r1, t1, _⟩ := I.list hp
  have hl : its.length = rs.length := r1.length.symm
  have kl : rs.length = kss.length := Paired.length hk
  have tup : ∀ i, i < rs.length -> ∃ a ks ys, rs.getD i .non = .ref a /\ kss.getD i [] = ks /\ its.getD i Value.none = .ref a /\ H a = some (.tup ys) /\ Paired (IntsAt H) ys ks := fun i hi => by
    obtain ⟨ks, e, a, ys, ea, ha, hy⟩ := Paired.at hk (i := i) (a := rs[i]) (by simp [hi])
    obtain ⟨v, ev, rv⟩ := r1.get (i := i) (x := rs[i]) (by simp [hi])
    rw [ea] at rv
    refine ⟨a, ks, ys, by simp [hi, ea], by rw [List.getD_eq_getElem?_getD, e]; rfl, ?_, ha, hy⟩
    rw [List.getD_eq_getElem?_getD, ev]
    exact rv
  have inner : ∀ {ys : List V} {ks : List (List Int)} {us : List Value}, Paired (IntsAt H) ys ks -> Vals ys us -> Paired (TupI s.heap) us ks := by
    intro ys ks us hy
    induction hy generalizing us with
    | nil => intro r; cases r; exact .nil
    | cons h t ih =>
      intro r
      cases r with
      | cons rv rt =>
        obtain ⟨c, rfl, hc⟩ := h
        cases (show _ = Value.ref c from rv)
        obtain ⟨_, vs, ru, o, g, hcl, n, hd⟩ := I.hok c _ hc
        exact .cons ⟨c, o, vs.toArray, n, rfl, g, hcl, hd, by simpa using intsAre_of ru⟩ (ih rt)
  have tups : Paired (TupN s.heap) its kss := by
    have e1 := range_getD its Value.none
    have e2 := range_getD kss []
    rw [hl] at e1
    rw [<- kl] at e2
    rw [<- e1, <- e2]
    refine paired_map fun i hi => ?_
    obtain ⟨a, ks, ys, _, e4, e5, e6, e7⟩ := tup i (List.mem_range.mp hi)
    obtain ⟨_, us, ru, o, g, hc, n, hd⟩ := I.hok a _ e6
    rw [e4, e5]
    exact ⟨a, o, us.toArray, n, rfl, g, hc, hd, by simpa using inner e7 ru⟩
  refine sorted_genA t1.isList (nLt_ord kss) (by omega) (fun A' ha => asks_nest (Nat.lt_of_le_of_lt ha (by omega)) tups hne) fun pm pb up => ?_
  obtain ⟨e, he⟩ := sortedAll_at s.heap its (outOf its pm).toArray
  have fr : s.heap.objs.size <= s.heap.objs.size + 1 := Nat.le_succ _
  have pl : ∀ i ∈ pm.toList, i < rs.length := fun i hi => by
    have := pb.list.mem_iff.mp hi
    rw [List.mem_range, hl] at this
    exact this
  have ls : pm.toList.length = rs.length := by rw [Array.length_toList, pb.size, hl]
  refine ⟨.ref (s.heap.objs.size + 1), upd H (s.heap.objs.size + 1) (.lst (pm.toList.map fun i => rs.getD i .non)), I.laid (t' := s.toks) (fun b o z => sortedAll_old z) fr ?_, rfl,
    q _ _ (pm.toList.map fun i => kss.getD i []) (paired_map fun i hi => ?_) ?_ ?_ (I.hok.fresh fr)⟩
  · refine ⟨?_, outOf its pm, e, paired_map fun i hi => ?_, he⟩
    · rw [List.length_map, ls, sizeLine_eq]; omega
    · obtain ⟨a, ks, ys, e3, e4, e5, e6, e7⟩ := tup i (pl i hi)
      rw [e3, e5]
      exact rfl
  · obtain ⟨a, ks, ys, e3, e4, e5, e6, e7⟩ := tup i (pl i hi)
    rw [e3, e4]
    exact ⟨a, ys, rfl, e6, e7⟩
  · have := pb.list.map fun i => kss.getD i []
    rw [hl, kl, range_getD] at this
    exact this
  · rw [List.pairwise_iff_getElem]
    intro i j hi hj hij
    rw [List.length_map] at hi hj
    have := up i j (by omega) (by rw [hl]; omega)
    simp only [List.getElem_map, Array.getElem_toList]
    have gi : pm.getD i 0 = pm[i] := by simp [Array.getD, show i < pm.size by rw [<- Array.length_toList]; exact hi]
    have gj : pm.getD j 0 = pm[j] := by simp [Array.getD, show j < pm.size by rw [<- Array.length_toList]; exact hj]
    rw [gi, gj] at this
    exact this
end
end L2
namespace L2
open PySem PySem.W PySem.Spec PyProof.Rows
section
variable {X : Cx}
theorem map_erase {α β : Type} (f : α -> β) : ∀ (l : List α) (j : Nat), (l.map f).eraseIdx j = (l.eraseIdx j).map f
  | [], j => by simp
  | a :: l, 0 => by simp
  | a :: l, j + 1 => by simp [map_erase f l j]
def rRemove : V -> List V -> Hp -> VK -> Prop := fun x vs H Q => ∃ (l : Addr) (ns : List Int) (k : Int) (j : Nat), x = .ref l /\ vs = [.int k] /\ H l = some (.lst (ns.map V.int)) /\ ns[j]? = some k /\ (∀ m, m < j -> ns[m]? ≠ some k) /\ Q .non (upd H l (.lst ((ns.eraseIdx j).map V.int)))
theorem mt_remove : MtM X "list.remove" rRemove := by
  intro pins s σ H x vs v us Q I rx rv h
  obtain ⟨l, ns, k, j, rfl, rfl, hH, hj, hno, q⟩ := h
  cases rx
  obtain ⟨u, rfl, t, rfl⟩ := rv.one
  obtain ⟨z, its, n, r, hl, e⟩ := I.lstM hH
  have hjl := (List.getElem?_eq_some_iff.mp hj).1
  rw [List.length_map] at hl z
  refine call_meets F.slot_list_remove ⟨_, e, rfl⟩ F.entry_list_remove (F.args_list_remove_2 _ _) (MeetsSeq.list_remove l its.toArray n (.int k t) (isK k) ?_ j (by rw [List.size_toArray]; lia) ?_ ?_ (by rw [List.size_toArray]; lia)) ⟨e, ?_⟩
  · intro y hy
    obtain ⟨m, hm, rfl⟩ := List.mem_iff_getElem.mp (show y ∈ its by simpa using hy)
    obtain ⟨t', a, _, e2⟩ := ints_at r hm
    rw [e2]
    exact MeetsSeq.EqGives.int a k t' t
  · show isK k its[j] = true
    obtain ⟨t', a, e1, e2⟩ := ints_at r (show j < its.length by lia)
    rw [e2]
    rw [hj] at e1
    cases e1
    exact beq_self_eq_true k
  · intro m hm hmj
    show isK k its[m] = false
    obtain ⟨t', a, e1, e2⟩ := ints_at r (show m < its.length by lia)
    rw [e2]
    show (a == k) = false
    rw [beq_eq_false_iff_ne]
    exact fun z => hno m hmj (by rw [e1, z])
  · refine ⟨.non, _, I.lset (its' := its.eraseIdx j) hH e ?_ ?_ ?_, rfl, q⟩
    · show its.toArray.eraseIdxIfInBounds j = (its.eraseIdx j).toArray
      rw [List.eraseIdxIfInBounds_toArray]
    · rw [<- map_erase]; exact r.eraseIdx j
    · rw [List.length_map]
      have := len_erase ns j
      lia
theorem sub_rri_reversed : isSubtype (.type "range_iterator") (.type "reversed") = pure false := by rw [isSubtype_type]; kernel_rfl
end
section
variable {prog : Program} {w : World} {A : Around} {E : Value -> Shared -> Prop} {s : Shared}
theorem meets_rrev (r : Addr) (a b c : Int) (t u v : Tok) (hs : (Builtin.Range.rangeFitsLong a && Builtin.Range.rangeFitsLong b && Builtin.Range.rangeFitsLong c && Builtin.Range.rangeFitsLong (-c) && Builtin.Range.rangeFitsLong (a - c) && Builtin.Range.rangeFitsLong (Builtin.Range.rangeSize a b c)) = true) :
    Meets (Builtin.«range.__reversed__» ⟨[.ref r], []⟩) (fun _ R s => s.heap.get? r = some { cls := .type "range", dict := none, data := .fields #[.int a t, .int b u, .int c v], slots := #[] } /\ R (.ok (.ret (Value.ref s.heap.objs.size))) { s with heap := s.heap.push { cls := .type "range_iterator", data := .fields #[rawInt (a + (Builtin.Range.rangeSize a b c - 1) * c), rawInt (Builtin.Range.rangeSize a b c), rawInt (-c)] } }) :=
  .of_wp fun prog w A R s h => by
    obtain ⟨hp, g, d, tk, os⟩ := s
    obtain ⟨hl, h⟩ := h
    wp_walk
    rw [if_pos hs]
    exact ⟨_, rfl, h⟩
theorem fits62 {a : Int} (h1 : -(2 ^ 62) <= a) (h2 : a < 2 ^ 62) : Builtin.Range.rangeFitsLong a = true := by
  unfold Builtin.Range.rangeFitsLong
  simp only [Bool.and_eq_true, decide_eq_true_eq]
  lia
theorem code_reversed_range {r : Addr} {a b c : Int} {t u v : Tok} {Q₁ : Value -> Shared -> Prop} (hl : s.heap.get? r = some { cls := .type "range", dict := none, data := .fields #[.int a t, .int b u, .int c v], slots := #[] }) (hs : (Builtin.Range.rangeFitsLong a && Builtin.Range.rangeFitsLong b && Builtin.Range.rangeFitsLong c && Builtin.Range.rangeFitsLong (-c) && Builtin.Range.rangeFitsLong (a - c) && Builtin.Range.rangeFitsLong (Builtin.Range.rangeSize a b c)) = true)
    (h : Q₁ (.ref s.heap.objs.size) { s with heap := s.heap.push { cls := .type "range_iterator", data := .fields #[rawInt (a + (Builtin.Range.rangeSize a b c - 1) * c), rawInt (Builtin.Range.rangeSize a b c), rawInt (-c)] } }) :
    codeAny (model prog w) A (.call (.builtin "reversed.__new__") ⟨[.type "reversed", .ref r], []⟩) (wants Q₁ E) s := by
  have hT : s.TypeIs (.ref r) "range" := ⟨_, hl, rfl⟩
  refine codeAny_of_tree ?_
  show wpAny _ A.in1 (do checkBuiltinCall "reversed.__new__" ⟨[.type "reversed", .ref r], []⟩; again (.builtin "reversed.__new__" ⟨[.type "reversed", .ref r], []⟩)) _ _ s
  refine wpAny_bind (wpAny_of_eq (F.newCall_reversed_1 _) (wpAny_pure ⟨plainId_quiet F.plain_reversed_new _, codeAny_builtin F.entry_reversed_new ?_⟩))
  rw [Around.under_plainId F.plain_reversed_new _]
  unfold Builtin.«reversed.__new__»
  refine wpAny_bind (wpAny_of_eq (newClass_reversed _) ?_)
  try dsimp only
  refine wpAny_bind (wpAny_of_eq (a := ()) (by first | rfl | kernel_rfl) ?_)
  refine wpAny_bind (wpAny_of_eq (a := ()) (by first | rfl | kernel_rfl) ?_)
  try dsimp only
  refine wpAny_bind (wpAny_specialOf hT F.slot_range_reversed.lookup ?_)
  try dsimp only
  refine wpAny_bind (wpAny_of_eq (F.slot_range_reversed.bind _) ?_)
  try dsimp only
  first
  | rw [if_neg (show ¬ ((Value.builtin "range.__reversed__" == Value.none) = true) from Bool.false_ne_true)]
  | (show wpAny _ _ (if (Value.builtin "range.__reversed__" == Value.none) = true then _ else _) _ _ _; rw [if_neg (show ¬ ((Value.builtin "range.__reversed__" == Value.none) = true) from Bool.false_ne_true)])
  refine wpAny_bind (wpAny_rule ?_)
  refine wpAny_bind (m := runValue (.call (.builtin "range.__reversed__") ⟨[.ref r], []⟩)) (show wpAny _ _ (call (.builtin "range.__reversed__") [.ref r]) _ _ _ from call_meets F.slot_range_reversed hT F.entry_range_reversed (F.args_range_reversed_1 _) (meets_rrev r a b c t u v hs) ⟨hl, ?_⟩)
  first
  | exact wpAny_pure h
  | exact wpAny_bind (wpAny_pure (wpAny_pure h))
theorem call_reversed_range {r : Addr} {a b c : Int} {t u v : Tok} {Q : Value -> Shared -> Prop} (hl : s.heap.get? r = some { cls := .type "range", dict := none, data := .fields #[.int a t, .int b u, .int c v], slots := #[] }) (hs : (Builtin.Range.rangeFitsLong a && Builtin.Range.rangeFitsLong b && Builtin.Range.rangeFitsLong c && Builtin.Range.rangeFitsLong (-c) && Builtin.Range.rangeFitsLong (a - c) && Builtin.Range.rangeFitsLong (Builtin.Range.rangeSize a b c)) = true)
    (h : Q (.ref s.heap.objs.size) { s with heap := s.heap.push { cls := .type "range_iterator", data := .fields #[rawInt (a + (Builtin.Range.rangeSize a b c - 1) * c), rawInt (Builtin.Range.rangeSize a b c), rawInt (-c)] } }) : wpAny (model prog w) A (call (.type "reversed") [.ref r]) Q E s := by
  refine callType_other (U := "range_iterator") (Q₁ := fun obj s₁ => obj = .ref s.heap.objs.size /\ s₁ = { s with heap := s.heap.push { cls := .type "range_iterator", data := .fields #[rawInt (a + (Builtin.Range.rangeSize a b c - 1) * c), rawInt (Builtin.Range.rangeSize a b c), rawInt (-c)] } }) (by decide +kernel) F.create_reversed ⟨_, _, F.mro_reversed⟩ F.made_reversed sub_rri_reversed (F.typeCall_reversed_1 _) (code_reversed_range hl hs ⟨rfl, rfl⟩) ?_
  rintro obj s₁ ⟨rfl, rfl⟩
  exact ⟨⟨_, Heap.get?_push_size _ rfl, rfl⟩, h⟩
end
def iRevR (ta : TA) : TI := fun σ H R => ta σ H fun vs H1 => ∃ j : Nat, vs = [.int (j : Int)] /\ (j : Int) < 2 ^ 62 /\ R (Itc ((j : Int) - 1) (-1) j) H1
theorem pi_revrange {X : Cx} {tg a : Expr} {ta : TA} {p2 pos2 p pos : Pos} (hgr : Gl X "reversed") (hmr : X.mg "reversed" = none) (hg : Gl X "range") (hm : X.mg "range" = none) (ha : PA X [a] ta) (hs : starEach [a] X.env = [(false, eval a X.env)] := by rfl) (hs2 : starEach [Expr.Call (.Name "range" p) [a] [] pos] X.env = [(false, eval (.Call (.Name "range" p) [a] [] pos) X.env)] := by rfl) :
    PI X tg (.Call (.Name "reversed" p2) [.Call (.Name "range" p) [a] [] pos] [] pos2) (iRevR ta) := by
  intro pins s σ H R I h
  refine Call_ (ld_blt I hgr hmr boot_reversed' (PyProof.Rows.callWith_type1 ?_ hs2 rfl))
  rw [hs2]
  refine Calls.spliced_cons (Call_ (ld_blt I hg hm boot_range (PyProof.Rows.callWith_type1 (thn (ha pos pins s σ H _ I h) fun us s1 ⟨vs, H1, I1, r1, q1⟩ => ?_) hs rfl)))
  obtain ⟨j, e, jl, q⟩ := q1
  subst e
  cases r1 with
  | cons r rr =>
    cases rr
    obtain ⟨t, rfl⟩ := r
    refine call_range_1 (Calls.spliced_nil ?_)
    have e0 : Builtin.Range.rangeSize 0 (j : Int) 1 = j := by rw [rangeSize_one]; split <;> lia
    have I2 : Inv X pins σ H1 { s1 with heap := s1.heap.push { cls := .type "range", data := .fields #[.int 0 s1.toks, .int (j : Int) t, .int 1 (s1.toks + 1)] }, toks := s1.toks + 1 + 1 } := I1.kept fun b o e => Heap.get?_push_of_some _ e
    refine call_reversed_range (IsRange.new ..) ?_ ?_
    · rw [e0, fits62 (by lia) (by lia), fits62 (by lia) jl, fits62 (by lia) (by lia), fits62 (by lia) (by lia), fits62 (by lia) (by lia)]
      rfl
    rw [e0]
    refine wpAny_pyIter_rangeiter (Heap.get?_push_size _ rfl) ?_
    refine ⟨_, [_], _, _, H1, rfl, I2.kept (t' := s1.toks + 1 + 1) fun b o e => Heap.get?_push_of_some _ e, turn_rangeC _ ((j : Int) - 1) (-1) j, ?_, fun b hb => ?_, q⟩
    · show IsRangeIter _ _ ((j : Int) - 1 + ((0 : Nat) : Int) * -1) ((j : Int) - ((0 : Nat) : Int)) (-1)
      rw [show (j : Int) - 1 + ((0 : Nat) : Int) * -1 = 0 + ((j : Int) - 1) * 1 by lia, show (j : Int) - ((0 : Nat) : Int) = j by lia]
      exact Heap.get?_push_size _ rfl
    · rw [List.mem_singleton.mp hb]
      exact I2.fpOk (Nat.le_refl _) (I2.hok.fresh (Nat.le_refl _))
end L2
namespace L2
open PySem PySem.W PySem.Spec PyProof.Rows
def tDispT1 (tk tv : TE) : TE := fun σ H Q => ∀ p, H p = none -> tk σ (upd H p (.dT [])) fun x H1 => tv σ H1 fun y H2 => ∃ (b : Addr) (ks : List Key), x = .ref b /\ H2 b = some (.tup (ks.map kV)) /\ H2 p = some (.dT []) /\ Q (.ref p) (upd H2 p (.dT [(ks, y)]))
section
variable {X : Cx} {pos : Pos} {k v : Expr} {tk tv : TE}
theorem pe_dispT1 (hu : X.A.units + 1 < cLine) (hk : PE X k tk) (hv : PE X v tv) : PE X (.Dict [some k] [v] pos) (tDispT1 tk tv) := by
  intro pins s σ H Q I q
  have hn := I.hok.fresh (Nat.le_refl s.heap.objs.size)
  have I1 := I.laid (a := s.heap.objs.size) (o := .dT []) (h' := s.heap.push { cls := .type "dict", data := .dict #[] }) (t' := s.toks) (fun _ _ q => Heap.get?_push_of_some _ q) (Nat.le_refl _) (dt_empty s.heap I.big)
  rw [arm_eval_Dict, zip_pairTrees [some k] [v] X.env pos rfl rfl, dictDisplay_pairs (pairTrees [some k] [v] X.env pos) (fun z => nomatch z) (by show 1 < 17; decide)]
  refine wpAny_bind (wpAny_standAt (wpAny_bind ?_))
  unfold subDict
  refine wpAny_bind (wpAny_alloc ?_)
  refine wpAny_bind (wpAny_holding ?_)
  rw [if_pos (show (pairTrees [some k] [v] X.env pos).length <= 15 by show 1 <= 15; decide)]
  refine wpAny_bind (pairTrees_cons_walk (thn (hk pins _ σ _ _ I1 (q _ hn)) fun u s1 ⟨x, H1, I2, rx, q1⟩ => thn (hv pins s1 σ H1 _ I2 q1) fun w2 s2 ⟨y, H2, I3, ry, b, ks, ex, hb, hp, q2⟩ => pairTrees_nil_walk ?_))
  subst ex
  cases (show u = Value.ref b from rx)
  refine wpAny_holding ?_
  rw [List.forIn_cons]
  obtain ⟨z, hd, xs, rel, dd⟩ := dt_of I3.hok hp
  have hz : xs.length <= sizeLine := by rw [<- Paired.length rel]; exact z
  refine wpAny_bind (wpAny_bind (wpAny_bind (wpAny_dictSet_heap (hsz := hz) (show X.A.units < cLine by lia) (key_of I3.hok hb) dd fun h' dd' hs => wpAny_pure ?_)))
  dsimp only
  rw [List.forIn_nil]
  refine wpAny_pure (wpAny_pure (wpAny_pure (wpAny_pure ?_)))
  obtain ⟨o', es, ep, hq, h2, h3, h4, _, h5⟩ := dd'
  cases rel
  refine ⟨.ref s.heap.objs.size, _, d_write (ob := .dT [(ks, y)]) I3 (by rw [hp]; exact True.intro) hs ⟨o', hq⟩ ⟨?_, hd, _, ?_, o', es, ep, hq, h2, h3, h4, h5⟩, rfl, q2⟩
  · show 1 <= sizeLine; decide
  · refine .cons ⟨rfl, ?_, ry⟩ .nil
    show upd H2 _ _ b = _
    rw [upd_ne (ne_of hb hp (fun z => nomatch z))]
    exact hb
end
section
variable {prog : Program} {w : World} {A : Around} {E : Value -> Shared -> Prop} {s : Shared}
theorem entriesForEmptyH {id : String} {d : Addr} {o : Obj} {es ep} {Q : Array DictEntry -> Shared -> Prop} (ho : s.heap.get? d = some o) (hd : o.data = .dict es ep) (hk : ∀ e ∈ es.toList, ∃ b, e.key = .ref b /\ s.TypeIs (.ref b) "tuple")
    (hh : ∀ e ∈ es.toList, ¬ (es.filter (·.hash == e.hash)).size > 1) (h : Q es s) : wpAny (model prog w) A (Builtin.Dict.entriesForEmpty id d) Q E s := by
  unfold Builtin.Dict.entriesForEmpty
  refine wpAny_bind (wpAny_dictEntries ho hd ?_)
  refine wpAny_bind ?_
  rw [<- Array.forIn_toList]
  refine wpAny_forIn_list _ (fun rest _ s' => s' = s /\ ∀ e ∈ rest, e ∈ es.toList) _ ?_ ?_ _ _ ⟨rfl, fun _ h => h⟩
  · rintro e rest b s' ⟨rfl, hm⟩
    have me := hm e List.mem_cons_self
    obtain ⟨b', hb, ht⟩ := hk e me
    refine wpAny_bind ?_
    rw [hb]
    unfold Builtin.Dict.quietEq
    refine wpAny_bind (wpAny_specialOf ht PySem.F.slot_tuple_eq.lookup (wpAny_pure ?_))
    rw [if_pos (by decide), if_neg (hh e me)]
    exact wpAny_pure ⟨rfl, fun e' h' => hm e' (List.mem_cons_of_mem _ h')⟩
  · rintro b s' ⟨rfl, _⟩
    exact wpAny_pure h
theorem mergeDictH {nm : String} {d o : Addr} {od oo : Obj} {epd epo : Nat} {eso : Array DictEntry} {Q : Unit -> Shared -> Prop} (hdo : d ≠ o) (hoS : (o == sysModules) = false)
    (hod : s.heap.get? d = some od) (hdd : od.data = .dict #[] epd) (hoo : s.heap.get? o = some oo) (hdo' : oo.data = .dict eso epo) (hne : 0 < eso.size) (hz : eso.size <= sizeLine)
    (hk : ∀ e ∈ eso.toList, ∃ b, e.key = .ref b /\ s.TypeIs (.ref b) "tuple") (hh : ∀ e ∈ eso.toList, ¬ (eso.filter (·.hash == e.hash)).size > 1)
    (hQ : Q () { s with heap := s.heap.update d (Obj.mapDictKeys fun _ => eso) }) : wpAny (model prog w) A (Builtin.Dict.mergeDict nm d o) Q E s := by
  unfold Builtin.Dict.mergeDict
  rw [if_neg (by simpa using hdo)]
  unfold Builtin.Dict.showsAll
  rw [if_neg (by rw [hoS]; exact Bool.false_ne_true)]
  refine wpAny_bind (wpAny_pure ?_)
  refine wpAny_bind (wpAny_dictEntries hoo hdo' ?_)
  have few : (decide (eso.size <= 8) && eso.all fun e => (keyPart e.key).isSome) = false := by
    rw [Bool.and_eq_false_iff]
    refine .inr ?_
    rw [<- Array.all_toList, List.all_eq_false]
    obtain ⟨b, hb, _⟩ := hk eso[0] (by simp)
    exact ⟨eso[0], by simp, by rw [hb]; exact Bool.false_ne_true⟩
  dsimp only
  rw [few, if_pos (by decide)]
  refine wpAny_bind (wpAny_dictEntries hod hdd ?_)
  rw [if_pos (by rfl)]
  refine wpAny_bind (entriesForEmptyH hoo hdo' hk hh ?_)
  have hem : eso.isEmpty = false := by
    rw [Array.isEmpty_eq_false_iff]
    intro z
    rw [z] at hne
    exact absurd hne (by decide)
  rw [hem, if_pos (by rfl)]
  exact wpAny_bind (wpAny_updateDictKeysTo hod hdd (wpAny_pure hQ) (by show eso.size <= sizeLine + 1; lia))
theorem call_dictH {o : Addr} {oo : Obj} {epo : Nat} {eso : Array DictEntry} {Q : Value -> Shared -> Prop} (hoS : (o == sysModules) = false)
    (hoo : s.heap.get? o = some oo) (hox : oo.ExactDict) (hdo' : oo.data = .dict eso epo) (hne : 0 < eso.size) (hz : eso.size <= sizeLine)
    (hk : ∀ e ∈ eso.toList, ∃ b, e.key = .ref b /\ s.TypeIs (.ref b) "tuple") (hh : ∀ e ∈ eso.toList, ¬ (eso.filter (·.hash == e.hash)).size > 1)
    (h : Q (.ref s.heap.objs.size) { s with heap := (s.heap.push { cls := .type "dict", data := .dict #[] }).update s.heap.objs.size (Obj.mapDictKeys fun _ => eso) }) :
    wpAny (model prog w) A (call (.type "dict") [.ref o]) Q E s := by
  refine callType_codes (Q₁ := fun obj s₁ => obj = .ref s.heap.objs.size /\ s₁ = { s with heap := s.heap.push { cls := .type "dict", data := .dict #[] } }) F.kt_called_dict (F.kt_typeCall_dict_1 _) F.entry_dict_init (kt_code_dict_new _ ⟨rfl, rfl⟩) ?_
  rintro obj s₁ ⟨rfl, rfl⟩
  have hoo1 : (s.heap.push { cls := .type "dict", data := .dict #[] }).get? o = some oo := Heap.get?_push_of_some _ hoo
  have ho' : Shared.TypeIs { s with heap := s.heap.push { cls := .type "dict", data := .dict #[] } } (.ref o) "dict" := ⟨_, hoo1, hox.1⟩
  have hnew : Shared.TypeIs { s with heap := s.heap.push { cls := .type "dict", data := .dict #[] } } (.ref s.heap.objs.size) "dict" := ⟨_, Heap.get?_push_size _ rfl, rfl⟩
  have hdo : s.heap.objs.size ≠ o := fun e => absurd (Heap.lt_size hoo) (by rw [e]; exact Nat.lt_irrefl _)
  refine ⟨hnew, F.args_dict_init_2 _ _, ?_⟩
  unfold Builtin.«dict.__init__»
  refine wpAny_bind ?_
  unfold Builtin.Dict.selfAndRest
  refine wpAny_bind (wpAny_notOrdered_dict hnew ?_)
  show wpAny _ _ (pure (s.heap.objs.size, [Value.ref o])) _ _ _
  refine wpAny_pure ?_
  show wpAny _ _ (Builtin.Dict.updateFrom "dict.__init__" s.heap.objs.size (.ref o) [] .none) _ _ _
  unfold Builtin.Dict.updateFrom
  refine wpAny_bind (wpAny_typeOf ho' ?_)
  rw [if_neg (by decide)]
  refine wpAny_bind ?_
  unfold Builtin.Dict.merge
  refine wpAny_bind ?_
  unfold Builtin.Dict.readDirectly
  refine wpAny_bind (wpAny_isInstance ho' isSubtype_dict_dict ?_)
  simp only [Bool.not_true, Bool.false_eq_true, if_false]
  refine wpAny_bind (wpAny_specialOf ho' F.slot_dict_iter.lookup (wpAny_pure ?_))
  simp only [beq_self_eq_true, if_true]
  refine wpAny_bind (wpAny_pure ?_)
  refine mergeDictH hdo hoS (Heap.get?_push_size _ rfl) rfl hoo1 hdo' hne hz (fun e he => ?_) hh ?_
  · obtain ⟨b, hb, ob, g, c⟩ := hk e he
    exact ⟨b, hb, ob, Heap.get?_push_of_some _ g, c⟩
  show wpAny _ _ (Builtin.Dict.addKeywords s.heap.objs.size [] >>= _) _ _ _
  exact wpAny_bind (wpAny_pure (wpAny_pure ⟨rfl, h⟩))
end
section
variable {X : Cx}
def rDictT (P : Program) (w : World) : List V -> Hp -> VK -> Prop := fun xs H Q => ∃ (d : Addr) (kvs : TTab), xs = [.ref d] /\ DzAt H d kvs /\ kvs ≠ [] /\ (kvs.map fun kv => tupleKeyHash (mixKind P w) kv.1).Nodup /\ ∀ p, H p = none -> Q (.ref p) (upd H p (.dT kvs))
theorem filter_one {l : List DictEntry} {e : DictEntry} (h : (l.map (·.hash)).Nodup) : (l.filter (·.hash == e.hash)).length <= 1 := by
  induction l with
  | nil => exact Nat.zero_le _
  | cons a l ih =>
    rw [List.map_cons, List.nodup_cons] at h
    rw [List.filter_cons]
    split
    · next c =>
      have e0 : l.filter (·.hash == e.hash) = [] := List.filter_eq_nil_iff.mpr fun x hx z => h.1 (List.mem_map.mpr ⟨x, hx, by rw [eq_of_beq z, eq_of_beq c]⟩)
      rw [e0]
      exact Nat.le_refl _
    · exact ih h.2
theorem kt_keys {H : Hp} : ∀ {kvs : TTab} {xs : List (List Key × Addr × Value)}, KT H kvs xs -> xs.map (·.1) = kvs.map (·.1) := fun h => by
  induction h with
  | nil => rfl
  | cons r _ ih => rw [List.map_cons, List.map_cons, ih, r.1]
theorem call_dictT : CallR X (.type "dict") (rDictT X.prog X.w) := by
  intro pins s σ H xs us Q I r h
  obtain ⟨d, kvs, rfl, hz, hne, nd, q⟩ := h
  obtain ⟨u, rfl, rx⟩ := vals1 r
  cases rx
  obtain ⟨z, hd, ys, rel, oo, es, ep, hoo, hox, hda, hes, his, hn⟩ := dt_rd I.hok (show Rd H d (.dT kvs) from hz)
  have hsz : es.size = kvs.length := by rw [size_of_entries hes, Paired.length rel]
  have hh : (es.toList.map (·.hash)).Nodup := by
    rw [hes, List.map_map]
    have e : (fun x : List Key × Addr × Value => (entryOfKey (tupleKind (mixKind X.prog X.w)) x).hash) = (fun k => tupleKeyHash (mixKind X.prog X.w) k) ∘ (·.1) := rfl
    show (ys.map fun x : List Key × Addr × Value => (entryOfKey (tupleKind (mixKind X.prog X.w)) x).hash).Nodup
    rw [e, <- List.map_map, kt_keys rel, List.map_map]
    exact nd
  refine call_dictH hd hoo hox hda (by rw [hsz]; exact List.length_pos_iff.mpr hne) (by lia) (fun e he => ?_) (fun e he => ?_) ?_
  · rw [hes] at he
    obtain ⟨x, hx, rfl⟩ := List.mem_map.mp he
    exact ⟨x.2.1, rfl, (his x hx).typeIs⟩
  · have := filter_one (e := e) hh
    rw [<- Array.length_toList, Array.toList_filter]
    lia
  · refine ⟨.ref s.heap.objs.size, _, I.laid (a := s.heap.objs.size) (o := .dT kvs) (t' := s.toks) (fun b o' q' => ?_) (Nat.le_refl _) ?_, rfl, q _ (I.hok.fresh (Nat.le_refl _))⟩
    · rw [Heap.get?_update_other _ _ (Nat.ne_of_gt (Heap.lt_size q'))]
      exact Heap.get?_push_of_some _ q'
    · refine ⟨z, beq_eq_false_iff_ne.mpr (Ne.symm (Nat.ne_of_lt I.big)), ys, rel.keeps fun c zs hc => ?_, _, es, 1, Heap.get?_update_self _ (Heap.get?_push_size _ rfl) rfl, ⟨rfl, rfl, rfl⟩, rfl, hes, hn⟩
      rw [upd_ne]
      · exact hc
      · intro z
        rw [z, I.hok.fresh (Nat.le_refl _)] at hc
        cases hc
end
end L2
namespace L2
open PySem PySem.Spec PyProof.Rows
theorem fresh_const {n : Int} {k : Nat} {cp : Pos} {env : Env} : Fresh (eval (.Constant (.int n) k cp) env) := fresh_mk
theorem fresh_sub {o : Expr} {n : Int} {k : Nat} {cp pos : Pos} {env : Env} : Fresh (eval (.Subscript o (.Constant (.int n) k cp) pos) env) := by
  rw [arm_eval_Subscript]
  exact fresh_right fun _ => fresh_left (fresh_hold fresh_const)
theorem fresh_meth {o : Expr} {name : Str} {apos pos : Pos} {args : List Expr} {kw : List Keyword} {env : Env} (h : Fresh (eval o env)) (hb : attributeBase o name env (eval o env) = eval o env := by rfl) : Fresh (eval (.Call (.Attribute o name apos) args kw pos) env) := by
  rw [arm_eval_Call, hb]
  exact fresh_left h
theorem fresh_comp {x : Expr} {g : List Comprehension} {sc : Scope} {pos : Pos} {env : Env} (h : Fresh (firstIter g env)) : Fresh (eval (.ListComp x g sc pos) env) := by
  rw [arm_eval_ListComp]
  unfold comprehension
  exact fresh_left h
theorem fresh_call1 {f : Str} {a : Expr} {p pos : Pos} {env : Env} (h : Fresh (eval a env)) (hs : backTo pos (starEach [a] env) = [(false, eval a env)] := by rfl) : Fresh (eval (.Call (.Name f p) [a] [] pos) env) := by
  show Fresh (eval (.Name f p) env >>= fun fv => callWith pos fv [] (backTo pos (starEach [a] env)) (backToKw pos (keywordEach [] env)))
  refine fresh_right fun fv => ?_
  rw [hs]
  unfold callWith evalArgs
  refine fresh_left (fresh_hold ?_)
  refine fresh_left ?_
  unfold spliced
  exact fresh_left h
theorem fresh_asg {tg : List Expr} {e : Expr} {pos : Pos} {env : Env} (h : Fresh (eval e env)) (hs : swapsWithSole tg e pos.line env = pure false := by rfl) : Fresh (exec (.Assign tg e pos) env) := by
  rw [arm_exec_Assign, hs]
  refine fresh_right fun _ => ?_
  rw [pure_bind]
  exact fresh_left h
def PE1 (X : Cx) (e : Expr) (t : TE) : Prop := ∀ (pins : List (Addr × Obj)) (s : Shared) (σ : St) (H : Hp) (Q : VK), 1 <= s.toks -> Inv X pins σ H s -> t σ H Q -> wpAny (model X.prog X.w) X.A (eval e X.env) (EP X pins σ Q) X.xe s
def PT1 (X : Cx) (e : Expr) (t : TT) : Prop := ∀ (pins : List (Addr × Obj)) (s : Shared) (σ : St) (H : Hp) (Q : Bool -> Hp -> Prop), 1 <= s.toks -> Inv X pins σ H s -> t σ H Q -> wpAny (model X.prog X.w) X.A (isTrue e X.env (eval e X.env)) (TP X pins σ Q) X.xe s
def PS1 (X : Cx) (st : Stmt) (t : TS) : Prop := ∀ (pins : List (Addr × Obj)) (s : Shared) (σ : St) (H : Hp) (D : Ends), 1 <= s.toks -> Inv X pins σ H s -> t D σ H -> wpAny (model X.prog X.w) X.A (exec st X.env) (SP X pins D) X.xe s
def PSs1 (X : Cx) (st : List Stmt) (t : TS) : Prop := ∀ (pins : List (Addr × Obj)) (s : Shared) (σ : St) (H : Hp) (D : Ends), 1 <= s.toks -> Inv X pins σ H s -> t D σ H -> wpAny (model X.prog X.w) X.A (execs st X.env) (SP X pins D) X.xe s
section
variable {X : Cx} {st : Stmt} {rest : List Stmt} {t u : TS}
theorem pss_fresh (h1 : PS X st t) (hf : Fresh (exec st X.env)) (h2 : PSs1 X rest u) : PSs X (st :: rest) (tSeq t u) := by
  intro pins s σ H D I h
  refine wpAny_execs_cons (thn (wpAny_fresh hf (h1 pins s σ H { D with nx := u D } I h)) fun f s1 ⟨q, tk⟩ => ?_)
  cases f with
  | next =>
    obtain ⟨σ', H', I', q⟩ := q
    exact h2 pins s1 σ' H' D tk I' q
  | ret v => exact q
  | brk => exact q
  | cont => exact q
theorem pss1_cons (h1 : PS1 X st t) (h2 : PSs X rest u) : PSs1 X (st :: rest) (tSeq t u) := by
  intro pins s σ H D tk I h
  refine wpAny_execs_cons (thn (h1 pins s σ H { D with nx := u D } tk I h) fun f s1 q => ?_)
  cases f with
  | next =>
    obtain ⟨σ', H', I', q⟩ := q
    exact h2 pins s1 σ' H' D I' q
  | ret v => exact q
  | brk => exact q
  | cont => exact q
theorem ps1_if {c : Expr} {a b : List Stmt} {pos : Pos} {tc : TT} (hc : PT1 X c tc) (ha : PSs X a t) (hb : PSs X b u) : PS1 X (.If c a b pos) (tIfS tc t u) := by
  intro pins s σ H D tk I h
  refine wpAny_If (thn (hc pins s σ H _ tk I h) fun d s1 ⟨H1, I1, q1⟩ => ?_)
  cases d with
  | true => exact ha pins s1 σ H1 D I1 q1
  | false => exact hb pins s1 σ H1 D I1 q1
theorem pt1_or {a b : Expr} {r : List Expr} {pos : Pos} {tA tB' : TT} (ha : PT1 X a tA) (hb : PW X (.BoolOp .Or (b :: r) pos) tB') : PT1 X (.BoolOp .Or (a :: b :: r) pos) (tOr tA tB') := by
  intro pins s σ H Q tk I h
  refine isTrue_or (thn (ha pins s σ H _ tk I h) fun c s1 ⟨H1, I1, q1⟩ => ?_)
  cases c with
  | true => exact ⟨H1, I1, q1⟩
  | false => exact hb _ pins s1 σ H1 Q I1 q1
theorem pt1_cmpR {op : CmpOp} {r : R2} {a b : Expr} {ta tb : TE} {pos : Pos} (ho : OpR X (compareOp op) r) (ha : PE X a ta) (hb : PE1 X b tb) (hm : behindInMarks op b = false) : PT1 X (.Compare a [op] [b] pos) (tTest (tOp r ta tb)) := by
  intro pins s σ H Q tk I h
  refine wpAny_isTrue_Compare1 (thn (wpAny_toks (ha pins s σ H _ I h)) fun v s1 ⟨⟨x, H1, I1, r1, q1⟩, tk1⟩ => thn (hb pins s1 σ H1 _ (Nat.le_trans tk tk1) I1 q1) fun u s2 ⟨y, H2, I2, r2, q2⟩ =>
    thn (ho pins s2 σ H2 x y v u _ I2 r1 r2 q2) fun c s3 ⟨z, H3, I3, r3, k, e, q3⟩ => ?_) hm
  subst e
  cases r3
  exact wpAny_truthy_bool ⟨H3, I3, q3⟩
theorem spl2s {M : Model} {A : Around} {E : Value -> Shared -> Prop} {s : Shared} {env : Env} {y z : Str} {k1 k2 : Nat} {p1 p2 pos : Pos} {Q : List Value -> Shared -> Prop}
    (h : Q [.str y s.toks, .str z (s.toks + 1)] { s with toks := s.toks + 2 }) : wpAny M A (spliced (backTo pos (starEach [.Constant (.str y) k1 p1, .Constant (.str z) k2 p2] env))) Q E s := by
  show wpAny M A (spliced [(false, _), (false, _)]) Q E s
  unfold spliced
  repeat (first | (with_reducible refine Calls.Constant_str ?_) | wp_step)
  exact h
def tRepl (to : TE) (y z : Str) : TE := fun σ H Q => to σ H fun x H1 => ∃ t : Str, x = .str t /\ t.length <= 1000 /\ Q (.str (Txt.replace t y z)) H1
theorem pe1_repl {o : Expr} {to : TE} {y z : Str} {k1 k2 : Nat} {p1 p2 apos rpos : Pos} (ho : PE X o to) (hyz : (y == z) = false) (hz : z.length <= 1000) (hbase : attributeBase o "replace" X.env (eval o X.env) = eval o X.env := by rfl) (hline : (apos.endLine == rpos.line) = true := by rfl) :
    PE1 X (.Call (.Attribute o "replace" apos) [.Constant (.str y) k1 p1, .Constant (.str z) k2 p2] [] rpos) (tRepl to y z) := by
  intro pins s σ H Q tk I h
  refine wpAny_Call_method_late hbase rfl hline rfl (thn (wpAny_toks (ho pins s σ H _ I h)) fun v s1 ⟨⟨x, H1, I1, r1, t, ex, hl, q⟩, tk1⟩ => ?_)
  subst ex
  obtain ⟨tt, rfl⟩ : ∃ tt, v = .str t tt := r1
  refine ⟨"str", "str.replace", PySem.F.plainAttrs_str, PySem.F.slot_str_replace, PySem.F.type_str_replace, typeIs_str _ _ _, ?_, ?_⟩
  · intro a ea; cases ea
  · refine Calls.callWith_builtin rfl (Calls.evalArgs_plain (spl2s ?_))
    have b1 : t.length + (t.length + 1) * z.length <= 16777216 := by
      have : (t.length + 1) * z.length <= 1001 * 1000 := Nat.mul_le_mul (by omega) hz
      omega
    refine SC.replace (by lia) (by lia) (by lia) hyz b1 fun t' k => ?_
    exact ⟨.str _, H1, I1.tok k, ⟨_, rfl⟩, q⟩
end
end L2
namespace My
open PySem L2
def top (i : Nat) : Stmt := PySem.Challenge.pw_manycounts_k34_steps_made_by_hand.main.body.getD i (.Pass ⟨0, 0, 0, 0⟩)
abbrev sGath : Stmt := top 2
abbrev sSumOf : Stmt := top 3
abbrev sProd : Stmt := top 4
abbrev sWith : Stmt := top 13
abbrev sAt : Stmt := top 15
abbrev sPlan : Stmt := top 16
abbrev sMadeS : Stmt := top 17
abbrev sSum : Stmt := top 18
abbrev sRaised : Stmt := top 19
abbrev sLWithin : Stmt := top 20
abbrev sLBeyond : Stmt := top 21
abbrev sLInside : Stmt := top 22
abbrev sDues : Stmt := top 23
abbrev sLWhole : Stmt := top 24
abbrev sClass : Stmt := top 25
abbrev sGood : Stmt := top 26
abbrev sLaw : Stmt := top 27
abbrev cEnd : Stmt := top 9
abbrev cCurl : Stmt := top 10
abbrev cBridge : Stmt := top 11
abbrev cFork : Stmt := top 12
abbrev sEPoly : Stmt := inClass cEnd 0
abbrev sCInit : Stmt := inClass cCurl 0
abbrev sCPoly : Stmt := inClass cCurl 1
abbrev sBInit : Stmt := inClass cBridge 0
abbrev sBPoly : Stmt := inClass cBridge 1
abbrev sFInit : Stmt := inClass cFork 0
abbrev sFPoly : Stmt := inClass cFork 1
abbrev sELv : Stmt := inClass cEnd 1
abbrev sEMany : Stmt := inClass cEnd 2
abbrev sCLv : Stmt := inClass cCurl 2
abbrev sCMany : Stmt := inClass cCurl 3
abbrev sBLv : Stmt := inClass cBridge 2
abbrev sBMany : Stmt := inClass cBridge 3
abbrev sFLv : Stmt := inClass cFork 2
abbrev sFMany : Stmt := inClass cFork 3
structure Txt (K : W.Frag) (mg : Str -> Option Value) : Prop where
  isi : mg "isinstance" = none
  int : mg "int" = none
  bool : mg "bool" = none
  len : mg "len" = none
  tuple : mg "tuple" = none
  all : mg "all" = none
  list : mg "list" = none
  min : mg "min" = none
  max : mg "max" = none
  range : mg "range" = none
  set : mg "set" = none
  sorted : mg "sorted" = none
theorem boot_isi : bootBuiltins "isinstance" = some (.builtin "isinstance") := by first | rfl | decide +kernel
theorem boot_int' : bootBuiltins "int" = some (.type "int") := by first | rfl | decide +kernel
theorem boot_bool' : bootBuiltins "bool" = some (.type "bool") := by first | rfl | decide +kernel
theorem boot_tuple' : bootBuiltins "tuple" = some (.type "tuple") := by first | rfl | decide +kernel
theorem boot_list' : bootBuiltins "list" = some (.type "list") := by first | rfl | decide +kernel
theorem boot_sorted' : bootBuiltins "sorted" = some (.builtin "sorted") := by first | rfl | decide +kernel
abbrev T3 := Int × Int × Int
def k3 (t : T3) : Int × Int := (t.1, t.2.1)
def coef (ts : List T3) (k : Int × Int) : Int := ((ts.filter fun t => decide (k3 t = k)).map (·.2.2)).sum
theorem coef_cons (t : T3) (ts : List T3) (k : Int × Int) : coef (t :: ts) k = (if k3 t = k then t.2.2 else 0) + coef ts k := by
  unfold coef
  by_cases h : k3 t = k
  · rw [List.filter_cons_of_pos (by simpa using h), if_pos h, List.map_cons, List.sum_cons]
  · rw [List.filter_cons_of_neg (by simpa using h), if_neg h, Int.zero_add]
theorem coef_app (a b : List T3) (k : Int × Int) : coef (a ++ b) k = coef a k + coef b k := by
  induction a with
  | nil => show coef b k = 0 + coef b k; lia
  | cons t a ih => rw [List.cons_append, coef_cons, coef_cons, ih]; lia
theorem coef_zero {ts : List T3} {k : Int × Int} (h : ∀ t ∈ ts, k3 t ≠ k) : coef ts k = 0 := by
  induction ts with
  | nil => rfl
  | cons t ts ih =>
    rw [coef_cons, if_neg (h t (List.mem_cons_self ..)), ih fun u hu => h u (List.mem_cons_of_mem _ hu)]
    lia
def keyLt (a b : T3) : Prop := a.1 < b.1 \/ (a.1 = b.1 /\ a.2.1 < b.2.1)
structure PolyIs (ts L : List T3) : Prop where
  up : L.Pairwise keyLt
  mem : ∀ t, t ∈ L ↔ t.2.2 ≠ 0 /\ t.2.2 = coef ts (k3 t)
theorem sorted_ext : ∀ {L M : List T3}, L.Pairwise keyLt -> M.Pairwise keyLt -> (∀ t, t ∈ L ↔ t ∈ M) -> L = M
  | [], [], _, _, _ => rfl
  | [], b :: M, _, _, h => absurd ((h b).mpr (List.mem_cons_self ..)) (by simp)
  | a :: L, [], _, _, h => absurd ((h a).mp (List.mem_cons_self ..)) (by simp)
  | a :: L, b :: M, h1, h2, h => by
    obtain ⟨p1, q1⟩ := List.pairwise_cons.mp h1
    obtain ⟨p2, q2⟩ := List.pairwise_cons.mp h2
    have e : a = b := by
      rcases List.mem_cons.mp ((h a).mp (List.mem_cons_self ..)) with e | e
      · exact e
      · rcases List.mem_cons.mp ((h b).mpr (List.mem_cons_self ..)) with e' | e'
        · exact e'.symm
        · have x := p2 a e
          have y := p1 b e'
          unfold keyLt at x y
          lia
    subst e
    rw [sorted_ext q1 q2 fun t => ⟨fun ht => ?_, fun ht => ?_⟩]
    · rcases List.mem_cons.mp ((h t).mp (List.mem_cons_of_mem _ ht)) with e | e
      · have x := p1 t ht
        rw [e] at x
        unfold keyLt at x
        lia
      · exact e
    · rcases List.mem_cons.mp ((h t).mpr (List.mem_cons_of_mem _ ht)) with e | e
      · have x := p2 t ht
        rw [e] at x
        unfold keyLt at x
        lia
      · exact e
theorem PolyIs.uniq {ts us L M : List T3} (h1 : PolyIs ts L) (h2 : PolyIs us M) (h : ∀ k, coef ts k = coef us k) : L = M :=
  sorted_ext h1.up h2.up fun t => by rw [h1.mem, h2.mem, h]
def kk (k : Int × Int) : List Key := [.inl k.1, .inl k.2]
theorem kk_inj {a b : Int × Int} (h : kk a = kk b) : a = b := by
  unfold kk at h
  simp only [List.cons.injEq, Sum.inl.injEq, and_true] at h
  exact Prod.ext h.1 h.2
structure TabIs (ts : List T3) (kvs : TTab) : Prop where
  nd : (kvs.map (·.1)).Nodup
  val : ∀ p ∈ kvs, ∃ k, p = (kk k, V.int (coef ts k))
  has : ∀ t ∈ ts, kk (k3 t) ∈ kvs.map (·.1)
  len : kvs.length <= ts.length
theorem TabIs.nil : TabIs [] [] := ⟨by simp, (fun _ h => nomatch h), (fun _ h => nomatch h), Nat.le_refl _⟩
theorem valV_mem {kvs : TTab} {k : List Key} {v : V} (h : valV kvs k = some v) : (k, v) ∈ kvs := by
  unfold valV at h
  obtain ⟨p, hp, rfl⟩ := Option.map_eq_some_iff.mp h
  have h1 := List.mem_of_find?_eq_some hp
  have h2 := List.find?_some hp
  have : p.1 = k := by simpa using h2
  rw [<- this]
  exact h1
theorem valV_none {kvs : TTab} {k : List Key} (h : valV kvs k = none) : k ∉ kvs.map (·.1) := by
  unfold valV at h
  rw [Option.map_eq_none_iff] at h
  intro hm
  obtain ⟨p, hp, e⟩ := List.mem_map.mp hm
  have := List.find?_eq_none.mp h p hp
  exact this (by simpa using e)
theorem TabIs.at {ts : List T3} {kvs : TTab} (h : TabIs ts kvs) (k : Int × Int) : (valV kvs (kk k)).getD (.int 0) = .int (coef ts k) := by
  cases e : valV kvs (kk k) with
  | some v =>
    obtain ⟨k', e'⟩ := h.val _ (valV_mem e)
    injection e' with e1 e2
    rw [kk_inj e1, e2]
    rfl
  | none =>
    have := valV_none e
    rw [coef_zero fun t ht z => this (by rw [<- z]; exact h.has t ht)]
    rfl
theorem TabIs.put {ts : List T3} {kvs : TTab} (h : TabIs ts kvs) (t : T3) : TabIs (ts ++ [t]) (putK kvs (kk (k3 t)) (.int (coef ts (k3 t) + t.2.2))) := by
  have c1 : coef (ts ++ [t]) (k3 t) = coef ts (k3 t) + t.2.2 := by
    rw [coef_app, coef_cons, if_pos rfl]
    show _ + (_ + 0) = _
    lia
  have c2 : ∀ k, k3 t ≠ k -> coef (ts ++ [t]) k = coef ts k := fun k hk => by
    rw [coef_app, coef_cons, if_neg hk]
    show _ + (0 + 0) = _
    lia
  refine ⟨?_, ?_, ?_, ?_⟩
  · unfold putK
    split
    · rw [List.map_map]
      have : ((fun x : List Key × V => x.1) ∘ fun kv : List Key × V => if kv.1 = kk (k3 t) then (kv.1, V.int (coef ts (k3 t) + t.2.2)) else kv) = fun x => x.1 := by
        funext p
        show (if p.1 = kk (k3 t) then (p.1, _) else p).1 = p.1
        split <;> rfl
      rw [this]
      exact h.nd
    · rename_i hn
      rw [List.map_append, List.nodup_append]
      refine ⟨h.nd, by simp, fun a ha b hb => ?_⟩
      have : b = kk (k3 t) := by simpa using hb
      subst this
      intro e
      subst e
      apply hn
      obtain ⟨p, hp, e⟩ := List.mem_map.mp ha
      exact List.any_eq_true.mpr ⟨p, hp, by simpa using e⟩
  · intro p hp
    unfold putK at hp
    split at hp
    · obtain ⟨q, hq, rfl⟩ := List.mem_map.mp hp
      obtain ⟨k, e⟩ := h.val q hq
      by_cases c : q.1 = kk (k3 t)
      · rw [if_pos c]
        exact ⟨k3 t, by rw [c, c1]⟩
      · rw [if_neg c]
        refine ⟨k, ?_⟩
        rw [e, c2 k fun z => c (by rw [e, z])]
    · rename_i hn
      rcases List.mem_append.mp hp with hp | hp
      · obtain ⟨k, e⟩ := h.val p hp
        refine ⟨k, ?_⟩
        rw [e, c2 k fun z => hn (List.any_eq_true.mpr ⟨p, hp, by rw [e, z]; simp⟩)]
      · have : p = (kk (k3 t), V.int (coef ts (k3 t) + t.2.2)) := by simpa using hp
        exact ⟨k3 t, by rw [this, c1]⟩
  · have keep : ∀ x ∈ kvs.map (·.1), x ∈ (putK kvs (kk (k3 t)) (V.int (coef ts (k3 t) + t.2.2))).map (·.1) := by
      intro x hx
      unfold putK
      split
      · obtain ⟨p, hp, rfl⟩ := List.mem_map.mp hx
        refine List.mem_map.mpr ⟨_, List.mem_map.mpr ⟨p, hp, rfl⟩, ?_⟩
        show (if p.1 = kk (k3 t) then (p.1, _) else p).1 = p.1
        split <;> rfl
      · rw [List.map_append]
        exact List.mem_append_left _ hx
    intro u hu
    rcases List.mem_append.mp hu with hu | hu
    · exact keep _ (h.has u hu)
    · have : u = t := by simpa using hu
      subst this
      unfold putK
      split
      · rename_i hy
        obtain ⟨p, hp, e⟩ := List.any_eq_true.mp hy
        have e' : p.1 = kk (k3 u) := by simpa using e
        refine List.mem_map.mpr ⟨_, List.mem_map.mpr ⟨p, hp, rfl⟩, ?_⟩
        show (if p.1 = kk (k3 u) then (p.1, _) else p).1 = _
        rw [if_pos e', e']
      · rw [List.map_append]
        exact List.mem_append_right _ (by simp)
  · have := length_putK kvs (kk (k3 t)) (V.int (coef ts (k3 t) + t.2.2))
    have := h.len
    rw [List.length_append]
    show _ <= _ + 1
    lia
def selP (p : List Key × V) : Option T3 := match p with
  | ([.inl i, .inl j], .int n) => if n = 0 then none else some (i, j, n)
  | _ => none
def sel (kvs : TTab) : List T3 := kvs.filterMap selP
theorem selP_kk (k : Int × Int) (n : Int) : selP (kk k, .int n) = if n = 0 then none else some (k.1, k.2, n) := rfl
theorem sel_mem {ts : List T3} {kvs : TTab} (h : TabIs ts kvs) (t : T3) : t ∈ sel kvs ↔ t.2.2 ≠ 0 /\ t.2.2 = coef ts (k3 t) := by
  unfold sel
  rw [List.mem_filterMap]
  constructor
  · rintro ⟨p, hp, e⟩
    obtain ⟨k, rfl⟩ := h.val p hp
    rw [selP_kk] at e
    by_cases c : coef ts k = 0
    · rw [if_pos c] at e; cases e
    · rw [if_neg c] at e
      cases e
      exact ⟨c, rfl⟩
  · rintro ⟨c, e⟩
    have : ∃ u ∈ ts, k3 u = k3 t := by
      refine Classical.byContradiction fun hn => c ?_
      rw [e]
      exact coef_zero fun u hu z => hn ⟨u, hu, z⟩
    obtain ⟨u, hu, eu⟩ := this
    obtain ⟨p, hp, e2⟩ := List.mem_map.mp (h.has u hu)
    obtain ⟨k, rfl⟩ := h.val p hp
    have ek : k = k3 t := by rw [<- eu]; exact kk_inj e2
    refine ⟨_, hp, ?_⟩
    rw [selP_kk, ek, <- e, if_neg c]
    rfl
theorem sel_keys {ts : List T3} {kvs : TTab} (h : TabIs ts kvs) : ((sel kvs).map k3).Nodup := by
  have hv := h.val
  have hn := h.nd
  clear h
  induction kvs with
  | nil => simp [sel]
  | cons p kvs ih =>
    rw [List.map_cons, List.nodup_cons] at hn
    have ih' := ih (fun q hq => hv q (List.mem_cons_of_mem _ hq)) hn.2
    obtain ⟨k, rfl⟩ := hv p (List.mem_cons_self ..)
    unfold sel at ih' ⊢
    by_cases c : coef ts k = 0
    · rw [List.filterMap_cons_none (by rw [selP_kk, if_pos c])]
      exact ih'
    · rw [List.filterMap_cons_some (by rw [selP_kk, if_neg c]), List.map_cons, List.nodup_cons]
      refine ⟨fun hm => hn.1 ?_, ih'⟩
      obtain ⟨t, ht, e⟩ := List.mem_map.mp hm
      obtain ⟨q, hq, eq⟩ := List.mem_filterMap.mp ht
      obtain ⟨k', rfl⟩ := hv q (List.mem_cons_of_mem _ hq)
      rw [selP_kk] at eq
      by_cases c' : coef ts k' = 0
      · rw [if_pos c'] at eq; cases eq
      · rw [if_neg c'] at eq
        cases eq
        have : k' = k := e
        subst this
        exact List.mem_map.mpr ⟨_, hq, rfl⟩
theorem sel_len {ts : List T3} {kvs : TTab} (h : TabIs ts kvs) : (sel kvs).length <= ts.length := Nat.le_trans (List.length_filterMap_le ..) h.len
def l3 (t : T3) : List Int := [t.1, t.2.1, t.2.2]
def u3 (l : List Int) : T3 := (l.getD 0 0, l.getD 1 0, l.getD 2 0)
theorem u3_l3 (t : T3) : u3 (l3 t) = t := rfl
theorem le_key {a b : T3} (h : LexLe (l3 a) (l3 b)) (ne : k3 a ≠ k3 b) : keyLt a b := by
  unfold LexLe l3 at h
  rw [HT.lexLt_cons] at h
  unfold keyLt
  by_cases e : b.1 = a.1
  · rw [if_pos e, HT.lexLt_cons] at h
    by_cases e2 : b.2.1 = a.2.1
    · exact absurd (show (a.1, a.2.1) = (b.1, b.2.1) by rw [e, e2]) ne
    · rw [if_neg e2] at h
      have := of_decide_eq_false h
      exact .inr ⟨e.symm, by lia⟩
  · rw [if_neg e] at h
    have := of_decide_eq_false h
    exact .inl (by lia)
theorem poly_sorted {ts : List T3} {kvs : TTab} (h : TabIs ts kvs) {kss : List (List Int)} (hp : kss.Perm ((sel kvs).map l3)) (hs : kss.Pairwise LexLe) : ∃ L, kss = L.map l3 /\ PolyIs ts L /\ L.length <= ts.length := by
  have e1 : kss.map u3 |>.map l3 |> (· = kss) := by
    rw [List.map_map]
    have : ∀ x ∈ kss, (l3 ∘ u3) x = x := fun x hx => by
      obtain ⟨t, _, rfl⟩ := List.mem_map.mp (hp.mem_iff.mp hx)
      show l3 (u3 (l3 t)) = l3 t
      rw [u3_l3]
    exact (List.map_congr_left this).trans (List.map_id _)
  have pm : (kss.map u3).Perm (sel kvs) := by
    have := hp.map u3
    rw [List.map_map] at this
    have e2 : (sel kvs).map (u3 ∘ l3) = sel kvs := (List.map_congr_left fun t _ => u3_l3 t).trans (List.map_id _)
    rw [e2] at this
    exact this
  refine ⟨kss.map u3, e1.symm, ⟨?_, fun t => by rw [pm.mem_iff, sel_mem h]⟩, by rw [pm.length_eq]; exact sel_len h⟩
  have nd : ((kss.map u3).map k3).Nodup := (pm.map k3).nodup_iff.mpr (sel_keys h)
  have nd2 : (kss.map u3).Pairwise fun a b => k3 a ≠ k3 b := List.pairwise_map.mp nd
  have s2 : (kss.map u3).Pairwise fun a b => LexLe (l3 a) (l3 b) := by
    rw [<- e1] at hs
    exact List.pairwise_map.mp hs
  exact (s2.and nd2).imp fun ⟨x, y⟩ => le_key x y
def TermAt (H : Hp) (v : V) (t : T3) : Prop := ∃ a, v = .ref a /\ H a = some (.tup [.int t.1, .int t.2.1, .int t.2.2])
theorem TermAt.same {H H' : Hp} {v : V} {t : T3} (h : TermAt H v t) (e : Same H H') : TermAt H' v t := let ⟨a, h1, h2⟩ := h; ⟨a, h1, e _ _ h2⟩
theorem terms_same {H H' : Hp} {xs : List V} {ts : List T3} (h : Paired (TermAt H) xs ts) (e : Same H H') : Paired (TermAt H') xs ts := L2.Paired.mapP h fun _ _ q => q.same e
theorem Same.put {H H2 : Hp} {p : Addr} {o : HO} (s : Same H H2) (h : H p = none) : Same H (upd H2 p o) := fun b u e => by rw [upd_ne (ne_of_none e h)]; exact s b u e
structure PolyAt (H : Hp) (v : V) (L : List T3) : Prop where
  ex : ∃ c rs, v = .ref c /\ H c = some (.tup rs) /\ Paired (TermAt H) rs L
theorem PolyAt.same {H H' : Hp} {v : V} {L : List T3} (h : PolyAt H v L) (e : Same H H') : PolyAt H' v L := by
  obtain ⟨c, rs, h1, h2, h3⟩ := h.ex
  exact ⟨c, rs, h1, e _ _ h2, terms_same h3 e⟩
theorem key2 {H : Hp} {b : Addr} {k : Int × Int} (h : H b = some (.tup ((kk k).map kV))) : H b = some (.tup [.int k.1, .int k.2]) := h
structure TxP (mg : Str -> Option Value) : Prop where
  isi : mg "isinstance" = none
  int : mg "int" = none
  bool : mg "bool" = none
  len : mg "len" = none
  tuple : mg "tuple" = none
  list : mg "list" = none
  range : mg "range" = none
  sorted : mg "sorted" = none
theorem Txt.p {K : W.Frag} {mg : Str -> Option Value} (T : Txt K mg) : TxP mg := ⟨T.isi, T.int, T.bool, T.len, T.tuple, T.list, T.range, T.sorted⟩
def TermK (K : W.Frag) (H : Hp) (v : V) (t : T3) : Prop := ∃ a, v = .ref a /\ SqT K H a [.int t.1, .int t.2.1, .int t.2.2]
theorem TermAt.K {K : W.Frag} {H : Hp} {v : V} {t : T3} (h : TermAt H v t) : TermK K H v t := let ⟨a, h1, h2⟩ := h; ⟨a, h1, SqT.of h2⟩
theorem TermK.same {K : W.Frag} {H H' : Hp} {v : V} {t : T3} (h : TermK K H v t) (e : Same H H') : TermK K H' v t := let ⟨a, h1, h2⟩ := h; ⟨a, h1, sqT e h2⟩
theorem termsK {K : W.Frag} {H : Hp} {xs : List V} {ts : List T3} (h : Paired (TermAt H) xs ts) : Paired (TermK K H) xs ts := L2.Paired.mapP h fun _ _ q => q.K
theorem termsK_same {K : W.Frag} {H H' : Hp} {xs : List V} {ts : List T3} (h : Paired (TermK K H) xs ts) (e : Same H H') : Paired (TermK K H') xs ts := L2.Paired.mapP h fun _ _ q => q.same e
structure PolyK (K : W.Frag) (H : Hp) (v : V) (L : List T3) : Prop where
  ex : ∃ c rs, v = .ref c /\ SqT K H c rs /\ Paired (TermK K H) rs L
theorem PolyAt.K {K : W.Frag} {H : Hp} {v : V} {L : List T3} (h : PolyAt H v L) : PolyK K H v L := by
  obtain ⟨c, rs, h1, h2, h3⟩ := h.ex
  exact ⟨c, rs, h1, SqT.of h2, termsK h3⟩
theorem PolyK.same {K : W.Frag} {H H' : Hp} {v : V} {L : List T3} (h : PolyK K H v L) (e : Same H H') : PolyK K H' v L := by
  obtain ⟨c, rs, h1, h2, h3⟩ := h.ex
  exact ⟨c, rs, h1, sqT e h2, termsK_same h3 e⟩
theorem same_termK {K : W.Frag} {H : Hp} {a b : Addr} {t : T3} (h1 : SqT K H a [.int t.1, .int t.2.1, .int t.2.2]) (h2 : SqT K H b [.int t.1, .int t.2.1, .int t.2.2]) : SameD K H 1 (.ref a) (.ref b) := by
  refine .tup h1 h2 rfl fun i u v e1 e2 => ?_
  rw [e1] at e2
  cases e2
  match i with
  | 0 => simp at e1; rw [<- e1]; exact .flat rfl
  | 1 => simp at e1; rw [<- e1]; exact .flat rfl
  | 2 => simp at e1; rw [<- e1]; exact .flat rfl
  | j + 3 => simp at e1
theorem same_polyK {K : W.Frag} {H : Hp} {v u : V} {L : List T3} (h1 : PolyK K H v L) (h2 : PolyK K H u L) {Q : VK} {out : Bool} (q : Q (.bl out) H) : rSame K out v u H Q := by
  obtain ⟨c, rs, rfl, c1, t1⟩ := h1.ex
  obtain ⟨c', rs', rfl, c2, t2⟩ := h2.ex
  have l1 := Paired.length t1
  have l2 := Paired.length t2
  refine ⟨c, c', _, _, 1, rfl, rfl, .inl ⟨c1, c2⟩, by lia, by decide, fun j x y f1 f2 => ?_, q⟩
  obtain ⟨p1, g1, a1, rfl, b1⟩ := Paired.at t1 f1
  obtain ⟨p2, g2, a2, rfl, b2⟩ := Paired.at t2 f2
  rw [g1] at g2
  cases g2
  exact same_termK b1 b2
theorem natB {n : Nat} (h : n < 100000) : n < sizeLine := Nat.lt_of_lt_of_le h (by decide)
def spGath (K : W.Frag) : Sp := fun vs H Q _ => ∃ (k : Kd) (a : Addr) (rs : List V) (ts : List T3), vs = [.ref a] /\ SqK k K H a rs /\ Paired (TermK K H) rs ts /\ ts.length < 100000 /\
  ∀ v L H', Same H H' -> PolyIs ts L -> L.length <= ts.length -> PolyAt H' v L -> Q v H'
theorem sel_take {kvs : TTab} {i : Nat} {p : List Key × V} (e : kvs[i]? = some p) : sel (kvs.take (i + 1)) = sel (kvs.take i) ++ (selP p).toList := by
  unfold sel
  rw [take_succ_of e, List.filterMap_append]
  congr 1
section
variable {P : Program} {w : World} {K : W.Frag} {mg : Str -> Option Value} {base : Heap}
theorem scGath : FnScope ["terms", "times_of", "i", "j", "times"] ["terms"] (defScope sGath) := ⟨rfl, rfl, rfl, by decide +kernel, rfl, by decide +kernel, by decide +kernel⟩
theorem ndG : (["key", "times"] : List Str).Nodup := by decide +kernel
theorem d_gath (T : TxP mg) (S : Src K mg "gathered" sGath ["terms"]) : Def P w K mg base 1 "gathered" ["terms"] (spGath K) := by
  refine S.def scGath (fun vs H Q E h => ?_) (fun f cdv A outer s H vs Q E hr h => ?_)
  · obtain ⟨_, _, _, _, rfl, _⟩ := h; rfl
  · obtain ⟨k, a, rs, ts, rfl, hq, ht, h64, q⟩ := h
    have rl : rs.length = ts.length := Paired.length ht
    refine ⟨_, pss_cons (ps_set (i := 1) scGath.nd rfl (Or.inl rfl) pe_dnewT)
      (pss_cons (ps_for PassesOwn.never rfl (pi_seqK K k (pv 0)) (pg_tupK K 3 rfl (pgs_cons (pg_name (i := 2) scGath.nd rfl (Or.inl rfl)) (pgs_cons (pg_name (i := 3) scGath.nd rfl (Or.inl rfl)) (pgs_cons (pg_name (i := 4) scGath.nd rfl (Or.inl rfl)) pgs_nil))))
        (pss_one (ps_dput (hu_of hr) (pv 1) (pe_tup (pa_cons (pv 2) (pa_cons (pv 3) pa_nil))) (pe_op op_add (pe_dget2 (hu_of hr) (pv 1) (pe_tup (pa_cons (pv 2) (pa_cons (pv 3) pa_nil))) pe_int ⟨rfl, rfl, rfl, rfl⟩) (pv 4)) rfl)))
      (pss_one (ps_ret (pe_callTy (call_tuple_ofK K) rfl T.tuple boot_tuple' (pa_cons (pe_callB call_sortedG (by rfl) T.sorted boot_sorted' (pa_cons (pe_comp (N' := ["key", "times"]) (fr := [none, none]) (compOk_of (by rfl)) rfl (pi_ditems (pe_bm0 PySem.F.plainAttrs_dict PySem.F.slot_dict_items PySem.F.type_dict_items mt_items (pv 1)))
        (g := gTup K 2 (gCons (gName 0) (gCons (gName 1) gNil))) (fun _ _ _ _ => pg_tupK K 2 rfl (pgs_cons (pg_name (i := 0) ndG rfl (Or.inl rfl) (Or.inr rfl)) (pgs_cons (pg_name (i := 1) ndG rfl (Or.inl rfl) (Or.inr rfl)) pgs_nil)))
        (fun _ _ _ _ => pifs_one (pt_cmpR op_ne (pv 1) pe_int (nomark _)))
        (fun _ _ _ _ => pe_tup (pa_cons (pe_ix (r := rIxT K) (ix_tupK K) (pv 0) pe_int (fun _ _ => rfl)) (pa_cons (pe_ix (r := rIxT K) (ix_tupK K) (pv 0) pe_int (fun _ _ => rfl)) (pa_cons (pv 1) pa_nil))))) pa_nil)) pa_nil))))), ?_⟩
    intro d hd
    have s1 := Same.new (o := HO.dT []) hd
    have hd1 : (upd H d (.dT [])) d = some (.dT []) := upd_same
    generalize upd H d (.dT []) = H1 at s1 hd1 ⊢
    refine ⟨_, rfl, a, rfl, ⟨rs, s1.seqK hq⟩, for_seq (k := k) (K := K) (a := a) (xs := rs) (fun i σ H' => (∃ u v r, σ = [some (.ref a), some (.ref d), u, v, r]) /\ Same H H' /\ ∃ kvs, H' d = some (.dT kvs) /\ TabIs (ts.take i) kvs)
      ⟨⟨_, _, _, rfl⟩, s1, [], hd1, TabIs.nil⟩ (fun i σ H' _ z => z.2.1.seqK hq) ?_ ?_⟩
    · rintro i x σ H2 hx ⟨⟨u, v, r, rfl⟩, sm, kvs, hk, tab⟩
      obtain ⟨t, e1, b, rfl, hb⟩ := Paired.at ht hx
      refine ⟨b, _, rfl, sqT sm hb, rfl, _, _, rfl, _, _, rfl, _, _, rfl, rfl, ?_⟩
      have kl : kvs.length < 100000 := by
        have := tab.len
        rw [List.length_take] at this
        omega
      refine ⟨_, rfl, d, rfl, .inr ⟨_, .inl hk⟩, _, rfl, _, rfl, by show 2 <= sizeLine; decide, fun c hc => ?_⟩
      have s3 := Same.new (o := HO.tup [.int t.1, .int t.2.1]) hc
      have hc3 : (upd H2 c (.tup [.int t.1, .int t.2.1])) c = some (.tup ((kk (k3 t)).map kV)) := upd_same
      have hk3 := s3 _ _ hk
      have sm3 := sm.trans s3
      generalize upd H2 c (.tup [.int t.1, .int t.2.1]) = H3 at s3 hc3 hk3 sm3 ⊢
      refine ⟨_, DGet.t hk3 hc3, ?_⟩
      rw [tab.at]
      refine ⟨_, rfl, _, _, rfl, rfl, _, rfl, _, rfl, _, rfl, by show 2 <= sizeLine; decide, fun c2 hc2 => ?_⟩
      have s4 := Same.new (o := HO.tup [.int t.1, .int t.2.1]) hc2
      have hc4 : (upd H3 c2 (.tup [.int t.1, .int t.2.1])) c2 = some (.tup ((kk (k3 t)).map kV)) := upd_same
      have hk4 := s4 _ _ hk3
      have sm4 := sm3.trans s4
      generalize upd H3 c2 (.tup [.int t.1, .int t.2.1]) = H4 at s4 hc4 hk4 sm4 ⊢
      refine ⟨d, _, rfl, DPut.t hk4 hc4 (natB kl), ⟨_, _, _, rfl⟩, Same.put sm4 hd, _, upd_same, ?_⟩
      rw [take_succ_of e1]
      exact tab.put t
    · rintro σ H2 ⟨⟨u, v, r, rfl⟩, sm, kvs, hk, tab⟩
      rw [rl, List.take_length] at tab
      have kl : kvs.length < 100000 := Nat.lt_of_le_of_lt tab.len h64
      refine ⟨_, rfl, .inr (.inr (.inl ⟨rfl, .inr ⟨_, hk⟩⟩)), d, kvs, rfl, rfl, hk, fun vw hvw => ?_⟩
      have s3 := Same.new (o := viewO vw d) hvw
      refine ⟨vw, d, kvs, rfl, upd_same, s3 _ _ hk, fun o => ?_⟩
      have hf : (upd (upd H2 vw (viewO vw d)) d (.frz o (.dT kvs))) d = some (.frz o (.dT kvs)) := upd_same
      have sm3 : Same H (upd (upd H2 vw (viewO vw d)) d (.frz o (.dT kvs))) := Same.put (sm.trans s3) hd
      generalize upd (upd H2 vw (viewO vw d)) d (.frz o (.dT kvs)) = H3 at hf sm3 ⊢
      refine comp_di (fun σ => ∃ u v, σ = [u, v]) (fun i ys H' => Same H3 H' /\ Paired (TermAt H') ys (sel (kvs.take i))) ⟨_, _, rfl⟩ ⟨Same.refl _, .nil⟩ (natB kl) (fun i ys H' z => z.1 _ _ hf) ?_ ?_
      · rintro i Tp b key vv ys σ H4 N ek hT hb ⟨u, v, rfl⟩ ⟨sm4, hy⟩ hN
        obtain ⟨k2, e2⟩ := tab.val _ (List.mem_of_getElem? ek)
        injection e2 with e3 e4
        subst e3 e4
        have s5 := Same.new (o := HO.tup [.ref b, .int (coef ts k2)]) hT
        have hT5 : (upd H4 Tp (.tup [.ref b, .int (coef ts k2)])) Tp = some (.tup [.ref b, .int (coef ts k2)]) := upd_same
        have hb5 := key2 (s5 _ _ hb)
        have sm5 := sm4.trans s5
        have hy5 := terms_same hy s5
        generalize upd H4 Tp (.tup [.ref b, .int (coef ts k2)]) = H5 at s5 hT5 hb5 sm5 hy5 ⊢
        refine ⟨Tp, _, rfl, SqT.of hT5, rfl, _, _, rfl, _, _, rfl, rfl, ?_⟩
        dsimp only [gName, List.set]
        refine ⟨_, rfl, rfl, _, rfl, ?_⟩
        have e5 := sel_take ek
        rw [selP_kk] at e5
        by_cases c : coef ts k2 = 0
        · rw [decide_eq_true (show V.int (coef ts k2) = V.int 0 by rw [c])]
          rw [if_pos c, Option.toList_none, List.append_nil] at e5
          refine iteF (hN _ _ _ ⟨_, _, rfl⟩ ⟨sm5, ?_⟩ (by omega))
          rw [e5]
          exact hy5
        · rw [decide_eq_false (show ¬ V.int (coef ts k2) = V.int 0 from fun z => c (by injection z))]
          rw [if_neg c, Option.toList_some] at e5
          have j0 : atI ([.int k2.1, .int k2.2] : List V) 0 = some (.int k2.1) := atI_nat (j := 0) rfl
          have j1 : atI ([.int k2.1, .int k2.2] : List V) 1 = some (.int k2.2) := atI_nat (j := 1) rfl
          refine iteT ⟨_, rfl, b, _, _, _, rfl, rfl, SqT.of hb5, j0, _, rfl, b, _, _, _, rfl, rfl, SqT.of hb5, j1, _, rfl, by show 3 <= sizeLine; decide, fun c2 hc2 => ?_⟩
          have s6 := Same.new (o := HO.tup [.int k2.1, .int k2.2, .int (coef ts k2)]) hc2
          refine hN _ _ _ ⟨_, _, rfl⟩ ⟨sm5.trans s6, ?_⟩ (by simp)
          rw [e5]
          exact L2.Paired.snoc (terms_same hy5 s6) ⟨c2, rfl, upd_same⟩
      · rintro ys H4 ⟨sm4, hy⟩ l hl
        rw [List.take_length] at hy
        have s5 := Same.new (o := HO.lst ys) hl
        have hl5 : (upd H4 l (.lst ys)) l = some (.lst ys) := upd_same
        have hy5 := terms_same hy s5
        have sm5 := sm4.trans s5
        generalize upd H4 l (.lst ys) = H5 at s5 hl5 hy5 sm5 ⊢
        have yl : ys.length = (sel kvs).length := Paired.length hy
        have sl := sel_len tab
        have py : Paired (IntsAt H5) ys ((sel kvs).map l3) := by
          have : ∀ {ys : List V} {us : List T3}, Paired (TermAt H5) ys us -> Paired (IntsAt H5) ys (us.map l3) := by
            intro ys us h
            induction h with
            | nil => exact .nil
            | cons r _ ih => exact .cons (let ⟨a, e1, e2⟩ := r; ⟨a, e1, e2⟩) ih
          exact this hy5
        refine ⟨l, ys, _, rfl, SqL.of hl5, by omega, py, fun ks hks => ?_, fun l2 rs' kss' p1 p2 p3 hl2 => ?_⟩
        · obtain ⟨t, _, rfl⟩ := List.mem_map.mp hks
          intro z
          cases z
        · obtain ⟨L, rfl, pL, ll⟩ := poly_sorted tab p2 p3
          have s6 := Same.new (o := HO.lst rs') hl2
          refine ⟨l2, rs', rfl, .inl ⟨SqL.of upd_same, fun c hc => ?_⟩⟩
          have s7 := Same.new (o := HO.tup rs') hc
          have pt : Paired (TermAt H5) rs' L := by
            have : ∀ {rs : List V} {us : List T3}, Paired (IntsAt H5) rs (us.map l3) -> Paired (TermAt H5) rs us := by
              intro rs us
              induction us generalizing rs with
              | nil => intro h; cases h; exact .nil
              | cons t us ih =>
                intro h
                rw [List.map_cons] at h
                cases h with
                | cons r t => exact .cons (let ⟨a, e1, e2⟩ := r; ⟨a, e1, e2⟩) (ih t)
            exact this p1
          exact q _ L _ ((sm3.trans sm5).trans (s6.trans s7)) pL ll ⟨c, rs', rfl, upd_same, terms_same pt (s6.trans s7)⟩
end
theorem nodup_coef : ∀ {U : List T3}, (U.map k3).Nodup -> ∀ t ∈ U, coef U (k3 t) = t.2.2
  | [], _, t, h => nomatch h
  | a :: U, nd, t, h => by
    rw [List.map_cons, List.nodup_cons] at nd
    rw [coef_cons]
    rcases List.mem_cons.mp h with rfl | h
    · rw [if_pos rfl, coef_zero fun u hu e => nd.1 (List.mem_map.mpr ⟨u, hu, e⟩)]
      lia
    · rw [if_neg (fun e => nd.1 (List.mem_map.mpr ⟨t, h, e.symm⟩)), nodup_coef nd.2 t h]
      lia
theorem up_nodup {L : List T3} (h : L.Pairwise keyLt) : (L.map k3).Nodup := by
  refine List.pairwise_map.mpr (h.imp fun {a b} x e => ?_)
  obtain ⟨e1, e2⟩ := Prod.mk.inj (show (a.1, a.2.1) = (b.1, b.2.1) from e)
  unfold keyLt at x
  lia
theorem PolyIs.coef {ts L : List T3} (h : PolyIs ts L) (k : Int × Int) : My.coef L k = My.coef ts k := by
  by_cases c : My.coef ts k = 0
  · rw [c]
    refine coef_zero fun t ht e => ?_
    obtain ⟨a, b⟩ := (h.mem t).mp ht
    rw [e, c] at b
    exact a b
  · have hm : (k.1, k.2, My.coef ts k) ∈ L := (h.mem _).mpr ⟨c, rfl⟩
    exact nodup_coef (up_nodup h.up) _ hm
def sw (t : T3) : T3 := (t.2.1, t.1, t.2.2)
def mulT (t u : T3) : T3 := (t.1 + u.1, t.2.1 + u.2.1, t.2.2 * u.2.2)
def prodL (ts us : List T3) : List T3 := ts.flatMap fun t => us.map (mulT t)
theorem prodL_len (ts us : List T3) : (prodL ts us).length = ts.length * us.length := by
  unfold prodL
  induction ts with
  | nil => simp
  | cons t ts ih => rw [List.flatMap_cons, List.length_append, ih, List.length_map, List.length_cons, Nat.add_mul, Nat.one_mul, Nat.add_comm]
theorem terms_put {H : Hp} {l : Addr} {ys zs : List V} {xs : List V} {ts : List T3} (h : Paired (TermAt H) xs ts) (hl : H l = some (.lst ys)) : Paired (TermAt (upd H l (.lst zs))) xs ts := L2.Paired.mapP h fun _ _ ⟨a, h1, h2⟩ => ⟨a, h1, by
  rw [upd_ne (ne_of h2 hl (fun z => nomatch z))]
  exact h2⟩
theorem paired_app {α β : Type} {F : α -> β -> Prop} {l₁ : List α} {l₂ : List β} {m₁ : List α} {m₂ : List β} (h : Paired F l₁ l₂) (h2 : Paired F m₁ m₂) : Paired F (l₁ ++ m₁) (l₂ ++ m₂) := by
  induction h with
  | nil => exact h2
  | cons r _ ih => exact .cons r ih
def spProd (K : W.Frag) : Sp := fun vs H Q _ => ∃ (v u : V) (ts us : List T3), vs = [v, u] /\ PolyK K H v ts /\ PolyK K H u us /\ ts.length * us.length < 100000 /\ us.length < 100000 /\ (∀ t ∈ ts, ∀ r ∈ us, IntMulOk t.2.2 r.2.2) /\
  ∀ x L H', Same H H' -> PolyIs (prodL ts us) L -> L.length <= (prodL ts us).length -> PolyAt H' x L -> Q x H'
section
variable {P : Program} {w : World} {K : W.Frag} {mg : Str -> Option Value} {base : Heap}
theorem scProd : FnScope ["one", "other", "terms", "i", "j", "times"] ["one", "other"] (defScope sProd) := ⟨rfl, rfl, rfl, by decide +kernel, rfl, by decide +kernel, by decide +kernel⟩
theorem nd4p : (["term", "i", "j", "times"] : List Str).Nodup := by decide +kernel
theorem d_prod (S : Src K mg "product_of" sProd ["one", "other"]) (DG : Def P w K mg base 1 "gathered" ["terms"] (spGath K)) : Def P w K mg base 2 "product_of" ["one", "other"] (spProd K) := by
  refine S.def scProd (fun vs H Q E h => ?_) (fun f cdv A outer s H vs Q E hr h => ?_)
  · obtain ⟨_, _, _, _, rfl, _⟩ := h; rfl
  · obtain ⟨v, u, ts, us, rfl, pv', pu', hl, hl2, hm, q⟩ := h
    have hr1 : Room 1 _ := hr.mono (by decide)
    obtain ⟨c, rs, rfl, hc, ht⟩ := pv'.ex
    obtain ⟨d, rs2, rfl, hd, ht2⟩ := pu'.ex
    have l1 := Paired.length ht
    have l2 := Paired.length ht2
    refine ⟨_, pss_cons (ps_set (i := 2) scProd.nd rfl (Or.inl rfl) (pe_lst pa_nil))
      (pss_cons (ps_for PassesOwn.never rfl (pi_seqK K .t (pv 0)) (pg_tupK K 3 rfl (pgs_cons (pg_name (i := 3) scProd.nd rfl (Or.inr rfl)) (pgs_cons (pg_name (i := 4) scProd.nd rfl (Or.inr rfl)) (pgs_cons (pg_name (i := 5) scProd.nd rfl (Or.inr rfl)) pgs_nil))))
        (pss_one (ps_expr (pe_bm PySem.F.plainAttrs_list PySem.F.slot_list_extend PySem.F.type_list_extend mt_extend (pv 2) (pa_cons (pe_comp (N' := ["term", "i", "j", "times"]) (fr := [none, some 3, some 4, some 5]) (compOk_of (by rfl)) rfl (pi_seqK K .t (pv 1))
          (fun _ _ _ _ => pg_name (i := 0) nd4p rfl (Or.inl rfl) (Or.inr rfl)) (fun _ _ _ _ => pifs_nil)
          (fun _ _ _ _ => pe_tup (pa_cons (pe_op op_add (pv 1) (pe_ix (r := rIxT K) (ix_tupK K) (pv 0) pe_int (fun _ _ => rfl))) (pa_cons (pe_op op_add (pv 2) (pe_ix (r := rIxT K) (ix_tupK K) (pv 0) pe_int (fun _ _ => rfl))) (pa_cons (pe_op op_mulB (pv 3) (pe_ix (r := rIxT K) (ix_tupK K) (pv 0) pe_int (fun _ _ => rfl))) pa_nil))))) pa_nil)))))
      (pss_one (ps_ret (pe_def DG hr1 rfl (pa_cons (pv 2) pa_nil))))), ?_⟩
    refine ⟨by show 0 <= sizeLine; decide, fun l hlN => ?_⟩
    have s1 := Same.new (o := HO.lst []) hlN
    refine ⟨_, rfl, c, rfl, ⟨rs, sqT s1 hc⟩, for_seq (k := .t) (K := K) (a := c) (xs := rs) (fun i σ H' => (∃ a b e, σ = [some (.ref c), some (.ref d), some (.ref l), a, b, e]) /\ Same H H' /\ ∃ zs, H' l = some (.lst zs) /\ Paired (TermAt H') zs (prodL (ts.take i) us))
      ⟨⟨_, _, _, rfl⟩, s1, [], upd_same, .nil⟩ (fun i σ H' _ z => sqT z.2.1 hc) ?_ ?_⟩
    · rintro i x σ H2 hx ⟨⟨a, b, e, rfl⟩, sm, zs, hz, pz⟩
      obtain ⟨t, et, b1, rfl, hb⟩ := Paired.at ht hx
      have tin := List.mem_of_getElem? et
      refine ⟨b1, _, rfl, sqT sm hb, rfl, _, _, rfl, _, _, rfl, _, _, rfl, rfl, ?_⟩
      dsimp only [List.set]
      refine ⟨_, rfl, .inl ⟨rfl, _, SqL.of hz⟩, _, rfl, d, rfl, ⟨_, sqT sm hd⟩, ?_⟩
      refine comp_seq (k := .t) (a := d) (xs := rs2) (fun σ => ∃ v, σ = [v, some (.int t.1), some (.int t.2.1), some (.int t.2.2)]) (fun j ys H3 => Same H2 H3 /\ Paired (TermAt H3) ys ((us.take j).map (mulT t))) ⟨_, rfl⟩ ⟨Same.refl _, .nil⟩ (natB (by omega)) (fun j ys H3 _ z => sqT z.1 (sqT sm hd)) ?_ ?_
      · rintro j x ys σ H3 N hx3 ⟨u3, rfl⟩ ⟨sm3, py⟩ hN
        obtain ⟨r, er, b3, rfl, hb3⟩ := Paired.at ht2 hx3
        have rin := List.mem_of_getElem? er
        have hb3' := sqT sm3 (sqT sm hb3)
        have i0 : atI ([.int r.1, .int r.2.1, .int r.2.2] : List V) 0 = some (.int r.1) := atI_nat (j := 0) rfl
        have i1 : atI ([.int r.1, .int r.2.1, .int r.2.2] : List V) 1 = some (.int r.2.1) := atI_nat (j := 1) rfl
        have i2 : atI ([.int r.1, .int r.2.1, .int r.2.2] : List V) 2 = some (.int r.2.2) := atI_nat (j := 2) rfl
        dsimp only [gName, List.set]
        refine yesT ?_
        refine ⟨_, rfl, _, rfl, b3, _, _, _, rfl, rfl, hb3', i0, _, _, rfl, rfl, _, rfl, _, rfl, b3, _, _, _, rfl, rfl, hb3', i1, _, _, rfl, rfl, _, rfl, _, rfl, b3, _, _, _, rfl, rfl, hb3', i2, _, _, rfl, rfl, hm t tin r rin, by show 3 <= sizeLine; decide, fun p4 hp4 => ?_⟩
        refine hN _ _ _ ⟨_, rfl⟩ ⟨sm3.trans (Same.new hp4), ?_⟩ (by simp)
        rw [take_succ_of er, List.map_append]
        exact L2.Paired.snoc (terms_same py (Same.new hp4)) ⟨p4, rfl, upd_same⟩
      · rintro ys H3 ⟨sm3, py⟩ p4 hp4
        rw [l2, List.take_length] at py
        have s4 := Same.new (o := HO.lst ys) hp4
        have ex : prodL (ts.take (i + 1)) us = prodL (ts.take i) us ++ us.map (mulT t) := by
          unfold prodL
          rw [take_succ_of et, List.flatMap_append]
          simp
        have ll : (prodL (ts.take (i + 1)) us).length <= ts.length * us.length := by
          rw [prodL_len]
          exact Nat.mul_le_mul_right _ (by rw [List.length_take]; omega)
        rw [ex, List.length_append] at ll
        have z1 := Paired.length pz
        have z2 := Paired.length py
        have hz4 := s4 _ _ (sm3 _ _ hz)
        refine ⟨l, p4, zs, ys, rfl, rfl, hz4, upd_same, Nat.le_of_lt (natB (by omega)), ?_⟩
        refine ⟨⟨_, _, _, rfl⟩, My.Same.put ((sm.trans sm3).trans s4) hlN, zs ++ ys, upd_same, ?_⟩
        rw [ex]
        exact terms_put (paired_app (terms_same pz (sm3.trans s4)) (terms_same py s4)) hz4
    · rintro σ H2 ⟨⟨a, b, e, rfl⟩, sm, zs, hz, pz⟩
      rw [l1, List.take_length] at pz
      refine ⟨_, rfl, .l, l, zs, prodL ts us, rfl, SqL.of hz, termsK pz, by rw [prodL_len]; exact hl, fun x L H3 s3 pi pl pa => ?_⟩
      exact q x L H3 (sm.trans s3) pi pl pa
end
inductive Stp where
  | fin
  | curl (t : Int) (s : Stp)
  | bri (t : Int) (s : Stp)
  | frk (t : Int) (a b : Stp)
namespace Stp
def deep : Stp -> Nat
  | fin => 0
  | curl _ s => s.deep + 1
  | bri _ s => s.deep + 1
  | frk _ a b => max a.deep b.deep + 1
def terms : Stp -> List T3
  | fin => [(0, 0, 1)]
  | curl _ s => s.terms.map (mulT (0, 1, 1))
  | bri _ s => s.terms.map (mulT (1, 0, 1))
  | frk _ a b => a.terms ++ b.terms
theorem terms_in : ∀ (S : Stp), ∀ t ∈ S.terms, 0 <= t.1 /\ 0 <= t.2.1 /\ t.1 + t.2.1 <= S.deep /\ t.2.2 = 1
  | fin, t, h => by rw [List.mem_singleton.mp h]; decide
  | curl _ s, t, h => by
    obtain ⟨u, hu, rfl⟩ := List.mem_map.mp h
    have := terms_in s u hu
    show 0 <= 0 + u.1 /\ 0 <= 1 + u.2.1 /\ 0 + u.1 + (1 + u.2.1) <= ((s.deep + 1 : Nat) : Int) /\ 1 * u.2.2 = 1
    lia
  | bri _ s, t, h => by
    obtain ⟨u, hu, rfl⟩ := List.mem_map.mp h
    have := terms_in s u hu
    show 0 <= 1 + u.1 /\ 0 <= 0 + u.2.1 /\ 1 + u.1 + (0 + u.2.1) <= ((s.deep + 1 : Nat) : Int) /\ 1 * u.2.2 = 1
    lia
  | frk _ a b, t, h => by
    have e : ((frk 0 a b).deep : Int) = ((max a.deep b.deep + 1 : Nat) : Int) := rfl
    show 0 <= t.1 /\ 0 <= t.2.1 /\ t.1 + t.2.1 <= ((max a.deep b.deep + 1 : Nat) : Int) /\ t.2.2 = 1
    rcases List.mem_append.mp h with z | z
    · have := terms_in a t z
      lia
    · have := terms_in b t z
      lia
end Stp
theorem coef_shift (a b : Int) (k : Int × Int) : ∀ L : List T3, coef (L.map (mulT (a, b, 1))) k = coef L (k.1 - a, k.2 - b)
  | [] => rfl
  | t :: L => by
    rw [List.map_cons, coef_cons, coef_cons, coef_shift a b k L]
    congr 1
    show (if (a + t.1, b + t.2.1) = k then 1 * t.2.2 else 0) = if (t.1, t.2.1) = (k.1 - a, k.2 - b) then t.2.2 else 0
    rw [Int.one_mul]
    obtain ⟨x, y⟩ := k
    by_cases h : (a + t.1, b + t.2.1) = (x, y)
    · rw [if_pos h, if_pos]
      rw [Prod.mk.injEq] at h ⊢
      dsimp only
      lia
    · rw [if_neg h, if_neg]
      intro z
      rw [Prod.mk.injEq] at h z
      dsimp only at z
      exact h (by lia)
theorem perm_up {l m : List Int} (p : l.Perm m) (h1 : l.Pairwise (· <= ·)) (h2 : m.Pairwise (· <= ·)) : l = m := List.Perm.eq_of_pairwise (fun a b _ _ h1 h2 => by omega) h1 h2 p
def KFrom (ts : List T3) (kvs : TTab) : Prop := ∀ p ∈ kvs, ∃ t ∈ ts, p.1 = kk (k3 t)
theorem KFrom.put {ts : List T3} {kvs : TTab} (h : KFrom ts kvs) (t : T3) (v : V) : KFrom (ts ++ [t]) (putK kvs (kk (k3 t)) v) := by
  intro p hp
  unfold putK at hp
  split at hp
  · obtain ⟨q, hq, rfl⟩ := List.mem_map.mp hp
    obtain ⟨u, hu, e⟩ := h q hq
    refine ⟨u, List.mem_append_left _ hu, ?_⟩
    rw [<- e]
    split <;> rfl
  · rcases List.mem_append.mp hp with z | z
    · obtain ⟨u, hu, e⟩ := h p z
      exact ⟨u, List.mem_append_left _ hu, e⟩
    · rw [List.mem_singleton.mp z]
      exact ⟨t, List.mem_append_right _ (List.mem_singleton.mpr rfl), rfl⟩
theorem get_int' {ks : List Int} {i : Nat} {x : V} (hx : (ks.map V.int)[i]? = some x) : ∃ k, ks[i]? = some k /\ V.int k = x := by
  rw [List.getElem?_map] at hx
  cases e : ks[i]? with
  | none => rw [e] at hx; simp at hx
  | some k => rw [e] at hx; simp at hx; exact ⟨k, rfl, hx⟩
theorem Paired.app {α β : Type} {F : α -> β -> Prop} : ∀ {l₁ k₁ : List α} {l₂ k₂ : List β}, Paired F l₁ l₂ -> Paired F k₁ k₂ -> Paired F (l₁ ++ k₁) (l₂ ++ k₂)
  | _, _, _, _, .nil, h => h
  | _, _, _, _, .cons r t, h => .cons r (Paired.app t h)
def rSortedK (kd : Kd) (K : W.Frag) : List V -> Hp -> VK -> Prop := fun xs H Q => ∃ (p : Addr) (ns : List Int), xs = [.ref p] /\ SqK kd K H p (ns.map V.int) /\ ns.length < 64 /\ ∀ (l : Addr) (ms : List Int), ms.Perm ns -> ms.Pairwise (· <= ·) -> H l = none -> Q (.ref l) (upd H l (.lst (ms.map V.int)))
theorem call_sortedK {X : Cx} (kd : Kd) : CallR X (.builtin "sorted") (rSortedK kd X.K) := by
  cases kd with
  | l => exact call_sortedI
  | t => exact call_sortedTI
open Builtin.Int (intBits)
def f2 (t r : V) : List (Str × V) := putF "rest" r (putF "tie" t [])
def f3 (t a b : V) : List (Str × V) := putF "within" b (putF "without" a (putF "tie" t []))
theorem s_tr : ¬ (("tie" : Str) = "rest") := by decide +kernel
theorem s_pr : ¬ (("poly" : Str) = "rest") := by decide +kernel
theorem s_pt : ¬ (("poly" : Str) = "tie") := by decide +kernel
theorem s_pi : ¬ (("poly" : Str) = "within") := by decide +kernel
theorem s_po : ¬ (("poly" : Str) = "without") := by decide +kernel
theorem s_ti : ¬ (("tie" : Str) = "within") := by decide +kernel
theorem s_to : ¬ (("tie" : Str) = "without") := by decide +kernel
theorem s_oi : ¬ (("without" : Str) = "within") := by decide +kernel
theorem f2_rest (t r : V) : (f2 t r).lookup ("rest" : Str) = some r := by unfold f2; rw [lookup_putF, if_pos rfl]
theorem f2_poly (t r : V) : (f2 t r).lookup ("poly" : Str) = none := by unfold f2; rw [lookup_putF, if_neg s_pr, lookup_putF, if_neg s_pt]; rfl
theorem f3_in (t a b : V) : (f3 t a b).lookup ("within" : Str) = some b := by unfold f3; rw [lookup_putF, if_pos rfl]
theorem f3_out (t a b : V) : (f3 t a b).lookup ("without" : Str) = some a := by unfold f3; rw [lookup_putF, if_neg s_oi, lookup_putF, if_pos rfl]
theorem f3_poly (t a b : V) : (f3 t a b).lookup ("poly" : Str) = none := by unfold f3; rw [lookup_putF, if_neg s_pi, lookup_putF, if_neg s_po, lookup_putF, if_neg s_pt]; rfl
def StepAt (CE CC CB CF : Addr) (H : Hp) : Stp -> V -> Prop
  | .fin, v => ∃ a dx, v = .ref a /\ H a = some (.ins CE dx [])
  | .curl t s, v => ∃ a dx r, v = .ref a /\ H a = some (.ins CC dx (f2 (.int t) r)) /\ StepAt CE CC CB CF H s r
  | .bri t s, v => ∃ a dx r, v = .ref a /\ H a = some (.ins CB dx (f2 (.int t) r)) /\ StepAt CE CC CB CF H s r
  | .frk t x y, v => ∃ a dx r u, v = .ref a /\ H a = some (.ins CF dx (f3 (.int t) r u)) /\ StepAt CE CC CB CF H x r /\ StepAt CE CC CB CF H y u
theorem StepAt.same {CE CC CB CF : Addr} {H H' : Hp} (s : Same H H') : ∀ {S : Stp} {v : V}, StepAt CE CC CB CF H S v -> StepAt CE CC CB CF H' S v
  | .fin, _, ⟨a, dx, e, h⟩ => ⟨a, dx, e, s _ _ h⟩
  | .curl _ _, _, ⟨a, dx, r, e, h, z⟩ => ⟨a, dx, r, e, s _ _ h, StepAt.same s z⟩
  | .bri _ _, _, ⟨a, dx, r, e, h, z⟩ => ⟨a, dx, r, e, s _ _ h, StepAt.same s z⟩
  | .frk _ _ _, _, ⟨a, dx, r, u, e, h, z, y⟩ => ⟨a, dx, r, u, e, s _ _ h, StepAt.same s z, StepAt.same s y⟩
def Stp.hd : Stp -> Nat
  | .fin => 0 | .curl _ _ => 1 | .bri _ _ => 2 | .frk _ _ _ => 3
theorem key_in {ts L : List T3} (pi : PolyIs ts L) {u : T3} (hu : u ∈ L) : ∃ v ∈ ts, v.1 = u.1 /\ v.2.1 = u.2.1 := by
  obtain ⟨h1, h2⟩ := (pi.mem u).mp hu
  by_cases c : ∃ v ∈ ts, k3 v = k3 u
  · obtain ⟨v, hv, e⟩ := c
    have e1 : (k3 v).1 = (k3 u).1 := by rw [e]
    have e2 : (k3 v).2 = (k3 u).2 := by rw [e]
    exact ⟨v, hv, e1, e2⟩
  · exact absurd (h2.trans (coef_zero fun v hv e => c ⟨v, hv, e⟩)) h1
theorem coef_le : ∀ {ts : List T3}, (∀ t ∈ ts, t.2.2 = 1) -> ∀ k, 0 <= coef ts k /\ coef ts k <= ts.length
  | [], _, k => ⟨Int.le_refl _, Int.le_refl _⟩
  | t :: ts, h, k => by
    have ih := coef_le (fun u hu => h u (List.mem_cons_of_mem _ hu)) k
    have h1 := h t List.mem_cons_self
    rw [coef_cons, List.length_cons]
    split <;> lia
theorem poly_low {S : Stp} {L : List T3} (pi : PolyIs S.terms L) (d8 : S.deep <= 30) (d9 : S.terms.length <= 400) : ∀ u ∈ L, 0 <= u.1 /\ 0 <= u.2.1 /\ u.1 + u.2.1 <= S.deep /\ intBits u.2.2 <= 17 := fun u hu => by
  obtain ⟨v, hv, e1, e2⟩ := key_in pi hu
  have i := S.terms_in v hv
  have c := coef_le (fun t ht => (S.terms_in t ht).2.2.2) (k3 u)
  have e := ((pi.mem u).mp hu).2
  refine ⟨by lia, by lia, by lia, intBits_le_iff.mpr (show u.2.2.natAbs < 2 ^ 17 from ?_)⟩
  have p17 : (2 : Nat) ^ 17 = 131072 := rfl
  lia
theorem one_is : PolyIs Stp.fin.terms [(0, 0, 1)] := ⟨by simp, fun t => by
  obtain ⟨a, b, c⟩ := t
  show (a, b, c) ∈ ([(0, 0, 1)] : List T3) ↔ c ≠ 0 /\ c = coef [(0, 0, 1)] (a, b)
  rw [coef_cons, show coef [] (a, b) = 0 from rfl, List.mem_singleton, Int.add_zero]
  show (a, b, c) = (0, 0, 1) ↔ c ≠ 0 /\ c = if ((0 : Int), (0 : Int)) = (a, b) then 1 else 0
  by_cases h : ((0 : Int), (0 : Int)) = (a, b)
  · rw [if_pos h]
    rw [Prod.mk.injEq] at h
    obtain ⟨rfl, rfl⟩ := h
    constructor
    · intro z; rw [Prod.mk.injEq, Prod.mk.injEq] at z; lia
    · intro z; rw [z.2]
  · rw [if_neg h]
    constructor
    · intro z
      rw [Prod.mk.injEq, Prod.mk.injEq] at z
      exact absurd (by rw [z.1, z.2.1]) h
    · intro z; exact absurd z.2 z.1⟩
theorem PolyIs.of_coef {ts us L : List T3} (h : PolyIs ts L) (e : ∀ k, My.coef ts k = My.coef us k) : PolyIs us L := ⟨h.up, fun t => by rw [h.mem t, e]⟩
theorem prod_one (t : T3) (L : List T3) : prodL [t] L = L.map (mulT t) := by
  unfold prodL
  simp
theorem shift_is {S : Stp} {L M : List T3} {a b : Int} (pi : PolyIs S.terms L) (pm : PolyIs (prodL [(a, b, 1)] L) M) : PolyIs (S.terms.map (mulT (a, b, 1))) M := pm.of_coef fun k => by
  rw [prod_one, coef_shift, coef_shift, pi.coef]
theorem both_is {S U : Stp} {L M N : List T3} (pi : PolyIs S.terms L) (pj : PolyIs U.terms M) (pn : PolyIs (L ++ M) N) : PolyIs (S.terms ++ U.terms) N := pn.of_coef fun k => by
  rw [coef_app, coef_app, pi.coef, pj.coef]
def spInit2 (C : Addr) : Sp := fun vs H Q _ => ∃ (p dx : Addr) (t r : V), vs = [.ref p, t, r] /\ H p = some (.ins C dx []) /\ Q .non (upd H p (.ins C dx (f2 t r)))
def spInit3 (C : Addr) : Sp := fun vs H Q _ => ∃ (p dx : Addr) (t r u : V), vs = [.ref p, t, r, u] /\ H p = some (.ins C dx []) /\ Q .non (upd H p (.ins C dx (f3 t r u)))
def spSumB (K : W.Frag) : Sp := fun vs H Q _ => ∃ (v u : V) (ts us : List T3), vs = [v, u] /\ PolyK K H v ts /\ PolyK K H u us /\ ts.length + us.length < 100000 /\
  ∀ x L H', Same H H' -> PolyIs (ts ++ us) L -> L.length <= (ts ++ us).length -> PolyAt H' x L -> Q x H'
def spPolyX (K : W.Frag) (CE CC CB CF : Addr) (c d : Nat) : Sp := fun vs H Q _ => ∃ (v : V) (S : Stp), vs = [v] /\ StepAt CE CC CB CF H S v /\ S.hd = c /\ S.deep <= d /\ (d <= 30 /\ S.terms.length <= 400) /\ ∀ pv L H', Same H H' -> PolyIs S.terms L -> L.length <= S.terms.length -> PolyK K H' pv L -> Q pv H'
def MetO (K : W.Frag) (C : Addr) (m qn : Str) (st : Stmt) (ps : List Str) : Prop := ∃ f fd, Meth K C m f /\ Fun K m qn st f fd /\ Binds K fd ps []
def MkO (K : W.Frag) (C : Addr) (qn : Str) (st : Stmt) (ps : List Str) : Prop := ∃ f fd, Mk K C f /\ Fun K "__init__" qn st f fd /\ Binds K fd ps []
structure StK (K : W.Frag) (mg : Str -> Option Value) (CE CC CB CF : Addr) : Prop where
  clE : Cls K CE
  clC : Cls K CC
  clB : Cls K CB
  clF : Cls K CF
  c1 : NoAttr K CC "tie"
  c2 : NoAttr K CC "rest"
  b1 : NoAttr K CB "tie"
  b2 : NoAttr K CB "rest"
  x1 : NoAttr K CF "tie"
  x2 : NoAttr K CF "without"
  x3 : NoAttr K CF "within"
  mE : Mk0 K CE
  iC : MkO K CC "Curl.__init__" sCInit ["self", "tie", "rest"]
  iB : MkO K CB "Bridge.__init__" sBInit ["self", "tie", "rest"]
  iF : MkO K CF "Fork.__init__" sFInit ["self", "tie", "without", "within"]
  gE : mg "End" = some (.ref CE)
  gC : mg "Curl" = some (.ref CC)
  gB : mg "Bridge" = some (.ref CB)
  gF : mg "Fork" = some (.ref CF)
  pE : MetO K CE "poly" "End.poly" sEPoly ["self"]
  pC : MetO K CC "poly" "Curl.poly" sCPoly ["self"]
  pB : MetO K CB "poly" "Bridge.poly" sBPoly ["self"]
  pF : MetO K CF "poly" "Fork.poly" sFPoly ["self"]
structure PolG (K : W.Frag) (mg : Str -> Option Value) (x : Str) (L : List T3) : Prop where
  ex : ∃ oa, mg x = some (.ref oa) /\ ∀ H, PolyK K H (.ref oa) L
section
variable {P : Program} {w : World} {K : W.Frag} {mg : Str -> Option Value} {base : Heap} {CE CC CB CF : Addr}
theorem scSumOf : FnScope ["one", "other"] ["one", "other"] (defScope sSumOf) := ⟨rfl, rfl, rfl, by decide +kernel, rfl, by decide +kernel, by decide +kernel⟩
theorem d_sumB (S : Src K mg "sum_of" sSumOf ["one", "other"]) (DG : Def P w K mg base 1 "gathered" ["terms"] (spGath K)) : Def P w K mg base 2 "sum_of" ["one", "other"] (spSumB K) := by
  refine S.def scSumOf (fun vs H Q E h => ?_) (fun f cdv A outer s H vs Q E hr h => ?_)
  · obtain ⟨_, _, _, _, rfl, _⟩ := h; rfl
  · obtain ⟨v, u, ts, us, rfl, pv', pu', hl, q⟩ := h
    obtain ⟨c, rs, rfl, hc, ht⟩ := pv'.ex
    obtain ⟨d, rs2, rfl, hd, ht2⟩ := pu'.ex
    have l1 := Paired.length ht
    have l2 := Paired.length ht2
    refine ⟨_, pss_one (ps_ret (pe_def DG hr rfl (pa_cons (pe_op op_catS (pv 0) (pv 1)) pa_nil))), ?_⟩
    refine ⟨_, rfl, _, rfl, c, d, rs, rs2, rfl, rfl, hc, hd, Nat.le_of_lt (natB (by lia)), fun p H1 s1 hp => ?_⟩
    refine ⟨.t, p, rs ++ rs2, ts ++ us, rfl, hp, paired_app (termsK_same ht s1) (termsK_same ht2 s1), by rw [List.length_append]; exact hl, fun x L H2 s2 pi pl pa => ?_⟩
    exact q x L H2 (s1.trans s2) pi pl pa
theorem scCI : FnScope ["self", "tie", "rest"] ["self", "tie", "rest"] (defScope sCInit) := ⟨rfl, rfl, rfl, by decide +kernel, rfl, by decide +kernel, by decide +kernel⟩
theorem ok_CI {f C : Addr} {fd : FuncData} (F : Fun K "__init__" "Curl.__init__" sCInit f fd) (cl : Cls K C) (n1 : NoAttr K C "tie") (n2 : NoAttr K C "rest") : FnOk P w K mg base CX0 1 f fd ["self", "tie", "rest"] (spInit2 C) := by
  refine F.ok scCI (fun vs H Q E h => ?_) (fun cdv A outer s H vs Q E hr h => ?_)
  · obtain ⟨_, _, _, _, rfl, _⟩ := h; rfl
  · obtain ⟨p, dx, t, r, rfl, hp, q⟩ := h
    refine ⟨_, pss_cons (ps_fld (pv 0) (pv 1) rfl) (pss_one (ps_fld (pv 0) (pv 2) rfl)), ?_⟩
    refine ⟨_, rfl, _, rfl, p, C, dx, [], rfl, hp, cl, n1, (by show 0 < 1000; decide), _, rfl, _, rfl, p, C, dx, _, rfl, upd_same, cl, n2, (by show 1 < 1000; decide), ?_⟩
    rw [upd_upd]
    exact q
theorem scBI : FnScope ["self", "tie", "rest"] ["self", "tie", "rest"] (defScope sBInit) := ⟨rfl, rfl, rfl, by decide +kernel, rfl, by decide +kernel, by decide +kernel⟩
theorem ok_BI {f C : Addr} {fd : FuncData} (F : Fun K "__init__" "Bridge.__init__" sBInit f fd) (cl : Cls K C) (n1 : NoAttr K C "tie") (n2 : NoAttr K C "rest") : FnOk P w K mg base CX0 1 f fd ["self", "tie", "rest"] (spInit2 C) := by
  refine F.ok scBI (fun vs H Q E h => ?_) (fun cdv A outer s H vs Q E hr h => ?_)
  · obtain ⟨_, _, _, _, rfl, _⟩ := h; rfl
  · obtain ⟨p, dx, t, r, rfl, hp, q⟩ := h
    refine ⟨_, pss_cons (ps_fld (pv 0) (pv 1) rfl) (pss_one (ps_fld (pv 0) (pv 2) rfl)), ?_⟩
    refine ⟨_, rfl, _, rfl, p, C, dx, [], rfl, hp, cl, n1, (by show 0 < 1000; decide), _, rfl, _, rfl, p, C, dx, _, rfl, upd_same, cl, n2, (by show 1 < 1000; decide), ?_⟩
    rw [upd_upd]
    exact q
theorem scFI : FnScope ["self", "tie", "without", "within"] ["self", "tie", "without", "within"] (defScope sFInit) := ⟨rfl, rfl, rfl, by decide +kernel, rfl, by decide +kernel, by decide +kernel⟩
theorem ok_FI {f C : Addr} {fd : FuncData} (F : Fun K "__init__" "Fork.__init__" sFInit f fd) (cl : Cls K C) (n1 : NoAttr K C "tie") (n2 : NoAttr K C "without") (n3 : NoAttr K C "within") : FnOk P w K mg base CX0 1 f fd ["self", "tie", "without", "within"] (spInit3 C) := by
  refine F.ok scFI (fun vs H Q E h => ?_) (fun cdv A outer s H vs Q E hr h => ?_)
  · obtain ⟨_, _, _, _, _, rfl, _⟩ := h; rfl
  · obtain ⟨p, dx, t, r, u, rfl, hp, q⟩ := h
    refine ⟨_, pss_cons (ps_fld (pv 0) (pv 1) rfl) (pss_cons (ps_fld (pv 0) (pv 2) rfl) (pss_one (ps_fld (pv 0) (pv 3) rfl))), ?_⟩
    refine ⟨_, rfl, _, rfl, p, C, dx, [], rfl, hp, cl, n1, (by show 0 < 1000; decide), _, rfl, _, rfl, p, C, dx, _, rfl, upd_same, cl, n2, (by show 1 < 1000; decide), ?_⟩
    rw [upd_upd]
    refine ⟨_, rfl, _, rfl, p, C, dx, _, rfl, upd_same, cl, n3, ?_, ?_⟩
    · show (putF "without" r [(("tie" : Str), t)]).length < 1000
      show (if ("tie" : Str) = "without" then _ else _ : List (Str × V)).length < 1000
      rw [if_neg s_to]
      show 2 < 1000
      decide
    rw [upd_upd]
    exact q
structure PolyOk (P : Program) (w : World) (K : W.Frag) (mg : Str -> Option Value) (base : Heap) (CE CC CB CF : Addr) (d : Nat) : Prop where
  e : ∃ f fd, Meth K CE "poly" f /\ Binds K fd ["self"] [] /\ FnOk P w K mg base CX0 (3 + d) f fd ["self"] (spPolyX K CE CC CB CF 0 d)
  c : ∃ f fd, Meth K CC "poly" f /\ Binds K fd ["self"] [] /\ FnOk P w K mg base CX0 (3 + d) f fd ["self"] (spPolyX K CE CC CB CF 1 d)
  b : ∃ f fd, Meth K CB "poly" f /\ Binds K fd ["self"] [] /\ FnOk P w K mg base CX0 (3 + d) f fd ["self"] (spPolyX K CE CC CB CF 2 d)
  f : ∃ f fd, Meth K CF "poly" f /\ Binds K fd ["self"] [] /\ FnOk P w K mg base CX0 (3 + d) f fd ["self"] (spPolyX K CE CC CB CF 3 d)
theorem meth_poly {A : Around} {d : Nat} (T : StK K mg CE CC CB CF) (O : PolyOk P w K mg base CE CC CB CF d) (R : Room (3 + d) A) {H : Hp} {Q : VK} {r : V} {S : Stp} (hs : StepAt CE CC CB CF H S r) (dp : S.deep <= d) (d8 : d <= 30 /\ S.terms.length <= 400)
    (q : ∀ pv L H', Same H H' -> PolyIs S.terms L -> L.length <= S.terms.length -> PolyK K H' pv L -> Q pv H') :
    ∃ a C dx fs, r = .ref a /\ H a = some (.ins C dx fs) /\ fs.lookup ("poly" : Str) = none /\
      ∃ (k : Nat) (f : Addr) (fd : FuncData) (ps : List Str) (sp : Sp), Cls K C /\ Meth K C "poly" f /\ FnOk P w K mg base CX0 k f fd ps sp /\ Room k A /\ Binds K fd ps [] /\ sp [r] H Q E0 := by
  cases S with
  | fin =>
    obtain ⟨a, dx, e, h⟩ := id hs
    obtain ⟨f, fd, m, b, F⟩ := O.e
    exact ⟨a, CE, dx, _, e, h, rfl, _, f, fd, _, _, T.clE, m, F, R, b, r, _, rfl, hs, rfl, dp, d8, q⟩
  | curl t s =>
    obtain ⟨a, dx, x, e, h, z⟩ := id hs
    obtain ⟨f, fd, m, b, F⟩ := O.c
    exact ⟨a, CC, dx, _, e, h, f2_poly _ _, _, f, fd, _, _, T.clC, m, F, R, b, r, _, rfl, hs, rfl, dp, d8, q⟩
  | bri t s =>
    obtain ⟨a, dx, x, e, h, z⟩ := id hs
    obtain ⟨f, fd, m, b, F⟩ := O.b
    exact ⟨a, CB, dx, _, e, h, f2_poly _ _, _, f, fd, _, _, T.clB, m, F, R, b, r, _, rfl, hs, rfl, dp, d8, q⟩
  | frk t s u =>
    obtain ⟨a, dx, x, y, e, h, z⟩ := id hs
    obtain ⟨f, fd, m, b, F⟩ := O.f
    exact ⟨a, CF, dx, _, e, h, f3_poly _ _ _, _, f, fd, _, _, T.clF, m, F, R, b, r, _, rfl, hs, rfl, dp, d8, q⟩
theorem scCP : FnScope ["self"] ["self"] (defScope sCPoly) := ⟨rfl, rfl, rfl, by decide +kernel, rfl, by decide +kernel, by decide +kernel⟩
theorem ok_CP {f : Addr} {fd : FuncData} {d : Nat} (F : Fun K "poly" "Curl.poly" sCPoly f fd) (T : StK K mg CE CC CB CF) (G : PolG K mg "Y" [(0, 1, 1)]) (DP : Def P w K mg base 2 "product_of" ["one", "other"] (spProd K)) (O : PolyOk P w K mg base CE CC CB CF d) : FnOk P w K mg base CX0 (3 + (d + 1)) f fd ["self"] (spPolyX K CE CC CB CF 1 (d + 1)) := by
  obtain ⟨oa, ho, hk⟩ := G.ex
  refine FnOk.mono (F.ok (k := 3 + d) scCP (fun vs H Q E h => ?_) (fun cdv A outer s H vs Q E hr h => ?_)) (by lia)
  · obtain ⟨_, _, rfl, _⟩ := h; rfl
  · obtain ⟨v, S, rfl, hs, hh, dp, ⟨d8, d9⟩, q⟩ := h
    cases S with
    | curl t s =>
      obtain ⟨a, dx, r, rfl, ha, hr0⟩ := hs
      have hr2 : Room 2 _ := hr.mono (by lia)
      have sd : s.deep <= d := Nat.le_of_succ_le_succ dp
      refine ⟨_, pss_one (ps_ret (pe_def DP hr2 rfl (pa_cons (pe_glob (v := .ref oa) rfl ho rfl) (pa_cons (pe_methA (pe_fld (pv 0) rfl)) pa_nil)))), ?_⟩
      refine ⟨_, rfl, a, CC, dx, _, r, rfl, ha, T.clC, T.c2, f2_rest _ _, ?_⟩
      have d9 : s.terms.length <= 400 := by unfold Stp.terms at d9; rw [List.length_map] at d9; exact d9
      refine meth_poly T O hr hr0 sd ⟨by lia, d9⟩ fun pv L H1 s1 pi pl pk => ?_
      have low := poly_low pi (by lia) d9
      refine ⟨.ref oa, pv, [(0, 1, 1)], L, rfl, hk _, pk, by show 1 * L.length < 100000; lia, by lia, fun x hx u hu => ?_, fun x M H2 s2 pm ml pa => ?_⟩
      · rw [List.mem_singleton.mp hx]
        exact IntMulOk.of_le (a := 1) (show intBits (1 : Int) <= 17 by decide) (low u hu).2.2.2 (by decide)
      · refine q x M H2 (s1.trans s2) (shift_is pi pm) ?_ pa.K
        rw [prod_one, List.length_map] at ml
        show M.length <= (s.terms.map _).length
        rw [List.length_map]
        lia
    | _ => cases hh
theorem scBP : FnScope ["self"] ["self"] (defScope sBPoly) := ⟨rfl, rfl, rfl, by decide +kernel, rfl, by decide +kernel, by decide +kernel⟩
theorem ok_BP {f : Addr} {fd : FuncData} {d : Nat} (F : Fun K "poly" "Bridge.poly" sBPoly f fd) (T : StK K mg CE CC CB CF) (G : PolG K mg "X" [(1, 0, 1)]) (DP : Def P w K mg base 2 "product_of" ["one", "other"] (spProd K)) (O : PolyOk P w K mg base CE CC CB CF d) : FnOk P w K mg base CX0 (3 + (d + 1)) f fd ["self"] (spPolyX K CE CC CB CF 2 (d + 1)) := by
  obtain ⟨oa, ho, hk⟩ := G.ex
  refine FnOk.mono (F.ok (k := 3 + d) scBP (fun vs H Q E h => ?_) (fun cdv A outer s H vs Q E hr h => ?_)) (by lia)
  · obtain ⟨_, _, rfl, _⟩ := h; rfl
  · obtain ⟨v, S, rfl, hs, hh, dp, ⟨d8, d9⟩, q⟩ := h
    cases S with
    | bri t s =>
      obtain ⟨a, dx, r, rfl, ha, hr0⟩ := hs
      have hr2 : Room 2 _ := hr.mono (by lia)
      have sd : s.deep <= d := Nat.le_of_succ_le_succ dp
      refine ⟨_, pss_one (ps_ret (pe_def DP hr2 rfl (pa_cons (pe_glob (v := .ref oa) rfl ho rfl) (pa_cons (pe_methA (pe_fld (pv 0) rfl)) pa_nil)))), ?_⟩
      refine ⟨_, rfl, a, CB, dx, _, r, rfl, ha, T.clB, T.b2, f2_rest _ _, ?_⟩
      have d9 : s.terms.length <= 400 := by unfold Stp.terms at d9; rw [List.length_map] at d9; exact d9
      refine meth_poly T O hr hr0 sd ⟨by lia, d9⟩ fun pv L H1 s1 pi pl pk => ?_
      have low := poly_low pi (by lia) d9
      refine ⟨.ref oa, pv, [(1, 0, 1)], L, rfl, hk _, pk, by show 1 * L.length < 100000; lia, by lia, fun x hx u hu => ?_, fun x M H2 s2 pm ml pa => ?_⟩
      · rw [List.mem_singleton.mp hx]
        exact IntMulOk.of_le (a := 1) (show intBits (1 : Int) <= 17 by decide) (low u hu).2.2.2 (by decide)
      · refine q x M H2 (s1.trans s2) (shift_is pi pm) ?_ pa.K
        rw [prod_one, List.length_map] at ml
        show M.length <= (s.terms.map _).length
        rw [List.length_map]
        lia
    | _ => cases hh
theorem scFP : FnScope ["self"] ["self"] (defScope sFPoly) := ⟨rfl, rfl, rfl, by decide +kernel, rfl, by decide +kernel, by decide +kernel⟩
theorem ok_FP {f : Addr} {fd : FuncData} {d : Nat} (F : Fun K "poly" "Fork.poly" sFPoly f fd) (T : StK K mg CE CC CB CF) (DS : Def P w K mg base 2 "sum_of" ["one", "other"] (spSumB K)) (O : PolyOk P w K mg base CE CC CB CF d) : FnOk P w K mg base CX0 (3 + (d + 1)) f fd ["self"] (spPolyX K CE CC CB CF 3 (d + 1)) := by
  refine FnOk.mono (F.ok (k := 3 + d) scFP (fun vs H Q E h => ?_) (fun cdv A outer s H vs Q E hr h => ?_)) (by lia)
  · obtain ⟨_, _, rfl, _⟩ := h; rfl
  · obtain ⟨v, S, rfl, hs, hh, dp, ⟨d8, d9⟩, q⟩ := h
    cases S with
    | frk t x y =>
      obtain ⟨a, dx, r, u, rfl, ha, hx0, hy0⟩ := hs
      have hr2 : Room 2 _ := hr.mono (by lia)
      have dm : max x.deep y.deep <= d := Nat.le_of_succ_le_succ dp
      have xd : x.deep <= d := Nat.le_trans (Nat.le_max_left _ _) dm
      have yd : y.deep <= d := Nat.le_trans (Nat.le_max_right _ _) dm
      refine ⟨_, pss_one (ps_ret (pe_def DS hr2 rfl (pa_cons (pe_methA (pe_fld (pv 0) rfl)) (pa_cons (pe_methA (pe_fld (pv 0) rfl)) pa_nil)))), ?_⟩
      refine ⟨_, rfl, a, CF, dx, _, r, rfl, ha, T.clF, T.x2, f3_out _ _ _, ?_⟩
      have e9 : (Stp.frk t x y).terms.length = x.terms.length + y.terms.length := List.length_append
      refine meth_poly T O hr hx0 xd ⟨by lia, by lia⟩ fun pv L H1 s1 pi pl pk => ?_
      refine ⟨_, rfl, a, CF, dx, _, u, rfl, s1 _ _ ha, T.clF, T.x3, f3_in _ _ _, ?_⟩
      refine meth_poly T O hr (hy0.same s1) yd ⟨by lia, by lia⟩ fun pw M H2 s2 pj ql qk => ?_
      refine ⟨pv, pw, L, M, rfl, pk.same s2, qk, by lia, fun b N H3 s3 pn nl pa => ?_⟩
      · refine q b N H3 (s1.trans (s2.trans s3)) (both_is pi pj pn) ?_ pa.K
        rw [List.length_append] at nl
        show N.length <= (x.terms ++ y.terms).length
        rw [List.length_append]
        lia
    | _ => cases hh
theorem scEP : FnScope ["self"] ["self"] (defScope sEPoly) := ⟨rfl, rfl, rfl, by decide +kernel, rfl, by decide +kernel, by decide +kernel⟩
theorem ok_EP {f : Addr} {fd : FuncData} {d : Nat} (F : Fun K "poly" "End.poly" sEPoly f fd) (G : PolG K mg "ONE" [(0, 0, 1)]) : FnOk P w K mg base CX0 (3 + d) f fd ["self"] (spPolyX K CE CC CB CF 0 d) := by
  obtain ⟨oa, ho, hk⟩ := G.ex
  refine FnOk.mono (F.ok (k := 0) scEP (fun vs H Q E h => ?_) (fun cdv A outer s H vs Q E hr h => ?_)) (by lia)
  · obtain ⟨_, _, rfl, _⟩ := h; rfl
  · obtain ⟨v, S, rfl, hs, hh, dp, ⟨d8, d9⟩, q⟩ := h
    cases S with
    | fin =>
      refine ⟨_, pss_one (ps_ret (pe_glob (v := .ref oa) rfl ho rfl)), ?_⟩
      exact q (.ref oa) _ H (Same.refl H) one_is (Nat.le_refl _) (hk H)
    | _ => cases hh
theorem poly_ok (T : StK K mg CE CC CB CF) (GX : PolG K mg "X" [(1, 0, 1)]) (GY : PolG K mg "Y" [(0, 1, 1)]) (G1 : PolG K mg "ONE" [(0, 0, 1)]) (DP : Def P w K mg base 2 "product_of" ["one", "other"] (spProd K)) (DS : Def P w K mg base 2 "sum_of" ["one", "other"] (spSumB K)) : ∀ d, PolyOk P w K mg base CE CC CB CF d
  | 0 => by
    obtain ⟨fe, de, me, Fe, be⟩ := T.pE
    obtain ⟨fc, dc, mc, Fc, bc⟩ := T.pC
    obtain ⟨fb, db, mb, Fb, bb⟩ := T.pB
    obtain ⟨ff, df, mf, Ff, bf⟩ := T.pF
    have bad : ∀ {f : Addr} {fd : FuncData} {c : Nat}, c ≠ 0 -> FnOk P w K mg base CX0 (3 + 0) f fd ["self"] (spPolyX K CE CC CB CF c 0) := fun {f fd c} c0 => by
      have no : ∀ vs H Q E, ¬ spPolyX K CE CC CB CF c 0 vs H Q E := fun vs H Q E h => by
        obtain ⟨v, S, _, _, hh, dp, _⟩ := h
        cases S with
        | fin => exact c0 hh.symm
        | curl _ _ => exact absurd dp (Nat.not_succ_le_zero _)
        | bri _ _ => exact absurd dp (Nat.not_succ_le_zero _)
        | frk _ _ _ => exact absurd dp (Nat.not_succ_le_zero _)
      exact ⟨fun vs H Q E h => (no vs H Q E h).elim, fun A outer s H args us vs Q E _ _ _ _ h => (no vs H Q E h).elim⟩
    exact ⟨⟨fe, de, me, be, ok_EP Fe G1⟩, ⟨fc, dc, mc, bc, bad (by decide)⟩, ⟨fb, db, mb, bb, bad (by decide)⟩, ⟨ff, df, mf, bf, bad (by decide)⟩⟩
  | d + 1 => by
    have O := poly_ok T GX GY G1 DP DS d
    obtain ⟨fe, de, me, Fe, be⟩ := T.pE
    obtain ⟨fc, dc, mc, Fc, bc⟩ := T.pC
    obtain ⟨fb, db, mb, Fb, bb⟩ := T.pB
    obtain ⟨ff, df, mf, Ff, bf⟩ := T.pF
    exact ⟨⟨fe, de, me, be, ok_EP Fe G1⟩, ⟨fc, dc, mc, bc, ok_CP Fc T GY DP O⟩, ⟨fb, db, mb, bb, ok_BP Fb T GX DP O⟩, ⟨ff, df, mf, bf, ok_FP Ff T DS O⟩⟩
end
abbrev Lf := List Int × List Int × List Int
def insI (t : Int) : List Int -> List Int
  | [] => [t]
  | x :: l => if t <= x then t :: x :: l else x :: insI t l
theorem insI_perm (t : Int) : ∀ l : List Int, (insI t l).Perm (t :: l)
  | [] => List.Perm.refl _
  | x :: l => by
    unfold insI
    split
    · exact List.Perm.refl _
    · exact ((insI_perm t l).cons x).trans (List.Perm.swap t x l)
theorem insI_mem {t y : Int} {l : List Int} : y ∈ insI t l ↔ y = t \/ y ∈ l := by rw [(insI_perm t l).mem_iff, List.mem_cons]
theorem insI_len (t : Int) (l : List Int) : (insI t l).length = l.length + 1 := (insI_perm t l).length_eq
theorem insI_up {t : Int} : ∀ {l : List Int}, l.Pairwise (· <= ·) -> (insI t l).Pairwise (· <= ·)
  | [], _ => List.pairwise_singleton _ _
  | x :: l, h => by
    have h := List.pairwise_cons.mp h
    unfold insI
    split
    · next c => exact List.pairwise_cons.mpr ⟨fun y hy => by
        rcases List.mem_cons.mp hy with rfl | hy
        · exact c
        · exact Int.le_trans c (h.1 y hy), List.pairwise_cons.mpr h⟩
    · next c => exact List.pairwise_cons.mpr ⟨fun y hy => by
        rcases insI_mem.mp hy with rfl | hy
        · lia
        · exact h.1 y hy, insI_up h.2⟩
def toN (x : Lf) : List (List Int) := [x.1, x.2.1, x.2.2]
def ofN : List (List Int) -> Lf
  | [a, b, c] => (a, b, c)
  | _ => ([], [], [])
def lC (t : Int) (x : Lf) : Lf := (x.1, x.2.1, insI t x.2.2)
def lB (t : Int) (x : Lf) : Lf := (insI t x.1, insI t x.2.1, x.2.2)
def lF (t : Int) (x : Lf) : Lf := (insI t x.1, x.2.1, x.2.2)
def lvs : Stp -> List Lf
  | .fin => [([], [], [])]
  | .curl t s => (lvs s).map (lC t)
  | .bri t s => (lvs s).map (lB t)
  | .frk t a b => lvs a ++ (lvs b).map (lF t)
def Up3 (x : Lf) : Prop := x.1.Pairwise (· <= ·) /\ x.2.1.Pairwise (· <= ·) /\ x.2.2.Pairwise (· <= ·)
def Len3 (d : Nat) (x : Lf) : Prop := x.1.length <= d /\ x.2.1.length <= d /\ x.2.2.length <= d
theorem lvs_up : ∀ (S : Stp), ∀ x ∈ lvs S, Up3 x /\ Len3 S.deep x
  | .fin, x, h => by rw [List.mem_singleton.mp h]; exact ⟨⟨.nil, .nil, .nil⟩, Nat.le_refl _, Nat.le_refl _, Nat.le_refl _⟩
  | .curl t s, x, h => by
    obtain ⟨y, hy, rfl⟩ := List.mem_map.mp h
    obtain ⟨⟨u1, u2, u3⟩, l1, l2, l3⟩ := lvs_up s y hy
    refine ⟨⟨u1, u2, insI_up u3⟩, ?_, ?_, ?_⟩
    · show y.1.length <= s.deep + 1; lia
    · show y.2.1.length <= s.deep + 1; lia
    · show (insI t y.2.2).length <= s.deep + 1; rw [insI_len]; lia
  | .bri t s, x, h => by
    obtain ⟨y, hy, rfl⟩ := List.mem_map.mp h
    obtain ⟨⟨u1, u2, u3⟩, l1, l2, l3⟩ := lvs_up s y hy
    refine ⟨⟨insI_up u1, insI_up u2, u3⟩, ?_, ?_, ?_⟩
    · show (insI t y.1).length <= s.deep + 1; rw [insI_len]; lia
    · show (insI t y.2.1).length <= s.deep + 1; rw [insI_len]; lia
    · show y.2.2.length <= s.deep + 1; lia
  | .frk t a b, x, h => by
    have e : (Stp.frk t a b).deep = max a.deep b.deep + 1 := rfl
    rcases List.mem_append.mp h with h | h
    · obtain ⟨u, l1, l2, l3⟩ := lvs_up a x h
      exact ⟨u, by lia, by lia, by lia⟩
    · obtain ⟨y, hy, rfl⟩ := List.mem_map.mp h
      obtain ⟨⟨u1, u2, u3⟩, l1, l2, l3⟩ := lvs_up b y hy
      refine ⟨⟨insI_up u1, u2, u3⟩, ?_, ?_, ?_⟩
      · show (insI t y.1).length <= _; rw [insI_len]; lia
      · show y.2.1.length <= _; lia
      · show y.2.2.length <= _; lia
def lenT (x : Lf) : T3 := ((x.2.1.length : Int), (x.2.2.length : Int), 1)
theorem lvs_terms : ∀ S : Stp, (lvs S).map lenT = S.terms
  | .fin => rfl
  | .curl t s => by
    show ((lvs s).map (lC t)).map lenT = s.terms.map (mulT (0, 1, 1))
    rw [<- lvs_terms s, List.map_map, List.map_map]
    refine List.map_congr_left fun x _ => ?_
    show ((x.2.1.length : Int), ((insI t x.2.2).length : Int), (1 : Int)) = (0 + (x.2.1.length : Int), 1 + (x.2.2.length : Int), 1 * 1)
    rw [insI_len]
    refine Prod.ext (by show (_ : Int) = _; lia) (Prod.ext (by show (_ : Int) = _; lia) rfl)
  | .bri t s => by
    show ((lvs s).map (lB t)).map lenT = s.terms.map (mulT (1, 0, 1))
    rw [<- lvs_terms s, List.map_map, List.map_map]
    refine List.map_congr_left fun x _ => ?_
    show (((insI t x.2.1).length : Int), (x.2.2.length : Int), (1 : Int)) = (1 + (x.2.1.length : Int), 0 + (x.2.2.length : Int), 1 * 1)
    rw [insI_len]
    refine Prod.ext (by show (_ : Int) = _; lia) (Prod.ext (by show (_ : Int) = _; lia) rfl)
  | .frk t a b => by
    show (lvs a ++ (lvs b).map (lF t)).map lenT = a.terms ++ b.terms
    rw [List.map_append, lvs_terms a, <- lvs_terms b, List.map_map]
    rfl
def LvIs (S : Stp) (M : List Lf) : Prop := M.Perm (lvs S) /\ (M.map toN).Pairwise NLe
theorem LvIs.uniq {S : Stp} {M M' : List Lf} (h : LvIs S M) (h' : LvIs S M') : M = M' := by
  have e := nLe_eq ((h.1.trans h'.1.symm).map toN) h.2 h'.2
  have := congrArg (List.map ofN) e
  rw [List.map_map, List.map_map] at this
  have i : ofN ∘ toN = id := rfl
  rw [i, List.map_id, List.map_id] at this
  exact this
theorem sort_back {M : List Lf} {L : List (List (List Int))} (p : L.Perm (M.map toN)) : ∃ M' : List Lf, L = M'.map toN /\ M'.Perm M := by
  refine ⟨L.map ofN, ?_, ?_⟩
  · rw [List.map_map]
    refine Eq.symm (Eq.trans (List.map_congr_left (g := id) fun x hx => ?_) (List.map_id _))
    obtain ⟨y, _, rfl⟩ := List.mem_map.mp (p.subset hx)
    rfl
  · have := p.map ofN
    rw [List.map_map] at this
    have i : ofN ∘ toN = id := rfl
    rw [i, List.map_id] at this
    exact this
theorem s_lr : ¬ (("leaves" : Str) = "rest") := by decide +kernel
theorem s_lt : ¬ (("leaves" : Str) = "tie") := by decide +kernel
theorem s_li : ¬ (("leaves" : Str) = "within") := by decide +kernel
theorem s_lo : ¬ (("leaves" : Str) = "without") := by decide +kernel
theorem s_mr : ¬ (("many" : Str) = "rest") := by decide +kernel
theorem s_mt : ¬ (("many" : Str) = "tie") := by decide +kernel
theorem s_mi : ¬ (("many" : Str) = "within") := by decide +kernel
theorem s_mo : ¬ (("many" : Str) = "without") := by decide +kernel
theorem f2_lv (t r : V) : (f2 t r).lookup ("leaves" : Str) = none := by unfold f2; rw [lookup_putF, if_neg s_lr, lookup_putF, if_neg s_lt]; rfl
theorem f3_lv (t a b : V) : (f3 t a b).lookup ("leaves" : Str) = none := by unfold f3; rw [lookup_putF, if_neg s_li, lookup_putF, if_neg s_lo, lookup_putF, if_neg s_lt]; rfl
theorem f2_my (t r : V) : (f2 t r).lookup ("many" : Str) = none := by unfold f2; rw [lookup_putF, if_neg s_mr, lookup_putF, if_neg s_mt]; rfl
theorem f3_my (t a b : V) : (f3 t a b).lookup ("many" : Str) = none := by unfold f3; rw [lookup_putF, if_neg s_mi, lookup_putF, if_neg s_mo, lookup_putF, if_neg s_mt]; rfl
theorem f2_tie (t r : V) : (f2 t r).lookup ("tie" : Str) = some t := by unfold f2; rw [lookup_putF, if_neg s_tr, lookup_putF, if_pos rfl]
theorem f3_tie (t a b : V) : (f3 t a b).lookup ("tie" : Str) = some t := by unfold f3; rw [lookup_putF, if_neg s_ti, lookup_putF, if_neg s_to, lookup_putF, if_pos rfl]
theorem pe_fldK {X : Cx} (K : W.Frag) {e : Expr} {ta : TE} {f : Str} {pos : Pos} (he : PE X e ta) (hb : attributeBase e f X.env (eval e X.env) = eval e X.env) (h : X.K = K := by rfl) : PE X (.Attribute e f pos) (tFld K ta f) := h ▸ pe_fld he hb
structure StL (K : W.Frag) (CE CC CB CF : Addr) : Prop where
  lE : MetO K CE "leaves" "End.leaves" sELv ["self"]
  lC : MetO K CC "leaves" "Curl.leaves" sCLv ["self"]
  lB : MetO K CB "leaves" "Bridge.leaves" sBLv ["self"]
  lF : MetO K CF "leaves" "Fork.leaves" sFLv ["self"]
  mE : MetO K CE "many" "End.many" sEMany ["self"]
  mC : MetO K CC "many" "Curl.many" sCMany ["self"]
  mB : MetO K CB "many" "Bridge.many" sBMany ["self"]
  mF : MetO K CF "many" "Fork.many" sFMany ["self"]
def LeafAt (H : Hp) (v : V) (x : Lf) : Prop := NestAt H v (toN x)
theorem leafs_same {H H' : Hp} {xs : List V} {M : List Lf} (h : Paired (LeafAt H) xs M) (s : Same H H') : Paired (LeafAt H') xs M := L2.Paired.mapP h fun _ _ q => q.same s
theorem LeafAt.ex {H : Hp} {v : V} {x : Lf} (h : LeafAt H v x) : ∃ a b c d, v = .ref a /\ H a = some (.tup [.ref b, .ref c, .ref d]) /\ H b = some (.tup (x.1.map V.int)) /\ H c = some (.tup (x.2.1.map V.int)) /\ H d = some (.tup (x.2.2.map V.int)) := by
  obtain ⟨a, ys, rfl, ha, hy⟩ := h
  unfold toN at hy
  cases hy with
  | cons h1 t1 =>
    cases t1 with
    | cons h2 t2 =>
      cases t2 with
      | cons h3 t3 =>
        cases t3
        obtain ⟨b, rfl, hb⟩ := h1
        obtain ⟨c, rfl, hc⟩ := h2
        obtain ⟨d, rfl, hd⟩ := h3
        exact ⟨a, b, c, d, rfl, ha, hb, hc, hd⟩
theorem LeafAt.mk {H : Hp} {a b c d : Addr} {x : Lf} (ha : H a = some (.tup [.ref b, .ref c, .ref d])) (hb : H b = some (.tup (x.1.map V.int))) (hc : H c = some (.tup (x.2.1.map V.int))) (hd : H d = some (.tup (x.2.2.map V.int))) : LeafAt H (.ref a) x := ⟨a, _, rfl, ha, .cons ⟨b, rfl, hb⟩ (.cons ⟨c, rfl, hc⟩ (.cons ⟨d, rfl, hd⟩ .nil))⟩
theorem nest_map {H : Hp} {xs : List V} {M : List Lf} (h : Paired (LeafAt H) xs M) : Paired (NestAt H) xs (M.map toN) := by
  induction h with
  | nil => exact .nil
  | cons r _ ih => exact .cons r ih
theorem nest_back {H : Hp} {xs : List V} : ∀ {M : List Lf}, Paired (NestAt H) xs (M.map toN) -> Paired (LeafAt H) xs M := by
  intro M h
  induction M generalizing xs with
  | nil => cases h; exact .nil
  | cons x M ih =>
    cases h with
    | cons r t => exact .cons r (ih t)
def spWith : Sp := fun vs H Q _ => ∃ (a : Addr) (l : List Int) (t : Int), vs = [.ref a, .int t] /\ H a = some (.tup (l.map V.int)) /\ l.Pairwise (· <= ·) /\ l.length <= 60 /\ ∀ p H', Same H H' -> H' p = some (.tup ((insI t l).map V.int)) -> Q (.ref p) H'
def spLvX (CE CC CB CF : Addr) (c d : Nat) : Sp := fun vs H Q _ => ∃ (v : V) (S : Stp), vs = [v] /\ StepAt CE CC CB CF H S v /\ S.hd = c /\ S.deep <= d /\ (d <= 30 /\ (lvs S).length <= 400) /\ ∀ l xs M H', Same H H' -> H l = none -> H' l = some (.lst xs) -> Paired (LeafAt H') xs M -> LvIs S M -> Q (.ref l) H'
def spMyX (CE CC CB CF : Addr) (c d : Nat) : Sp := fun vs H Q _ => ∃ (v : V) (S : Stp), vs = [v] /\ StepAt CE CC CB CF H S v /\ S.hd = c /\ S.deep <= d /\ (d <= 30 /\ (lvs S).length <= 400) /\ ∀ H', Same H H' -> Q (.int ((lvs S).length : Int)) H'
theorem lvs256 {S : Stp} {M : List Lf} (h : LvIs S M) (d9 : (lvs S).length <= 400) : M.length <= 400 := by
  rw [h.1.length_eq]
  exact d9
theorem fitC {t : Int} {s : Stp} (h : (lvs (.curl t s)).length <= 400) : (lvs s).length <= 400 := by
  unfold lvs at h
  rw [List.length_map] at h
  exact h
theorem fitB {t : Int} {s : Stp} (h : (lvs (.bri t s)).length <= 400) : (lvs s).length <= 400 := by
  unfold lvs at h
  rw [List.length_map] at h
  exact h
theorem fitF {t : Int} {x y : Stp} (h : (lvs (.frk t x y)).length <= 400) : (lvs x).length <= 400 /\ (lvs y).length <= 400 := by
  unfold lvs at h
  rw [List.length_append, List.length_map] at h
  lia
section
variable {P : Program} {w : World} {K : W.Frag} {mg : Str -> Option Value} {base : Heap} {CE CC CB CF : Addr}
seal PSs PS PE PI PA PT PG
theorem scWith : FnScope ["ties", "tie"] ["ties", "tie"] (defScope sWith) := ⟨rfl, rfl, rfl, by decide +kernel, rfl, by decide +kernel, by decide +kernel⟩
theorem d_with (T : Txt K mg) (S : Src K mg "with_tie" sWith ["ties", "tie"]) : Def P w K mg base 1 "with_tie" ["ties", "tie"] spWith := by
  refine S.def scWith (fun vs H Q E h => ?_) (fun f cdv A outer s H vs Q E hr h => ?_)
  · obtain ⟨_, _, _, rfl, _⟩ := h; rfl
  · obtain ⟨a, l, t, rfl, ha, up, l60, q⟩ := h
    refine ⟨_, pss_one (ps_ret (pe_callTy (call_tuple_ofK K) rfl T.tuple boot_tuple' (pa_cons (pe_callB (call_sortedK .t) (by rfl) T.sorted boot_sorted' (pa_cons (pe_op (op_catAK K) (pv 0) (pe_tup (pa_cons (pv 1) pa_nil))) pa_nil)) pa_nil))), ?_⟩
    refine ⟨_, rfl, _, rfl, by show 1 <= sizeLine; decide, fun p1 hp1 => ?_⟩
    have s1 := Same.new (o := HO.tup [.int t]) hp1
    refine ⟨a, p1, _, _, rfl, rfl, s1 _ _ ha, upd_same, ?_, fun p2 H2 s2 hp2 => ?_⟩
    · rw [List.length_map]
      exact Nat.le_of_lt (Nat.lt_of_le_of_lt (show l.length + 1 <= 100 by lia) (by decide))
    have e2 : H2 p2 = some (.tup ((l ++ [t]).map V.int)) := by rw [hp2, List.map_append]; rfl
    refine ⟨p2, l ++ [t], rfl, SqT.of e2, by rw [List.length_append, List.length_singleton]; lia, fun g ms pm um hg => ?_⟩
    have em : ms = insI t l := perm_up (pm.trans ((List.perm_append_singleton t l).trans (insI_perm t l).symm)) um (insI_up up)
    refine ⟨g, _, rfl, .inl ⟨SqL.of upd_same, fun p hp => ?_⟩⟩
    refine q p _ ((s1.trans s2).trans ((Same.new hg).trans (Same.new hp))) ?_
    rw [upd_same, em]
structure LvOk (P : Program) (w : World) (K : W.Frag) (mg : Str -> Option Value) (base : Heap) (CE CC CB CF : Addr) (d : Nat) : Prop where
  e : ∃ f fd, Meth K CE "leaves" f /\ Binds K fd ["self"] [] /\ FnOk P w K mg base CX0 (3 + d) f fd ["self"] (spLvX CE CC CB CF 0 d)
  c : ∃ f fd, Meth K CC "leaves" f /\ Binds K fd ["self"] [] /\ FnOk P w K mg base CX0 (3 + d) f fd ["self"] (spLvX CE CC CB CF 1 d)
  b : ∃ f fd, Meth K CB "leaves" f /\ Binds K fd ["self"] [] /\ FnOk P w K mg base CX0 (3 + d) f fd ["self"] (spLvX CE CC CB CF 2 d)
  f : ∃ f fd, Meth K CF "leaves" f /\ Binds K fd ["self"] [] /\ FnOk P w K mg base CX0 (3 + d) f fd ["self"] (spLvX CE CC CB CF 3 d)
theorem meth_lv {A : Around} {d : Nat} (T : StK K mg CE CC CB CF) (O : LvOk P w K mg base CE CC CB CF d) (R : Room (3 + d) A) {H : Hp} {Q : VK} {r : V} {S : Stp} (hs : StepAt CE CC CB CF H S r) (dp : S.deep <= d) (d8 : d <= 30 /\ (lvs S).length <= 400)
    (q : ∀ l xs M H', Same H H' -> H l = none -> H' l = some (.lst xs) -> Paired (LeafAt H') xs M -> LvIs S M -> Q (.ref l) H') :
    ∃ a C dx fs, r = .ref a /\ H a = some (.ins C dx fs) /\ fs.lookup ("leaves" : Str) = none /\
      ∃ (k : Nat) (f : Addr) (fd : FuncData) (ps : List Str) (sp : Sp), Cls K C /\ Meth K C "leaves" f /\ FnOk P w K mg base CX0 k f fd ps sp /\ Room k A /\ Binds K fd ps [] /\ sp [r] H Q E0 := by
  cases S with
  | fin =>
    obtain ⟨a, dx, e, h⟩ := id hs
    obtain ⟨f, fd, m, b, F⟩ := O.e
    exact ⟨a, CE, dx, _, e, h, rfl, _, f, fd, _, _, T.clE, m, F, R, b, r, _, rfl, hs, rfl, dp, d8, q⟩
  | curl t s =>
    obtain ⟨a, dx, x, e, h, z⟩ := id hs
    obtain ⟨f, fd, m, b, F⟩ := O.c
    exact ⟨a, CC, dx, _, e, h, f2_lv _ _, _, f, fd, _, _, T.clC, m, F, R, b, r, _, rfl, hs, rfl, dp, d8, q⟩
  | bri t s =>
    obtain ⟨a, dx, x, e, h, z⟩ := id hs
    obtain ⟨f, fd, m, b, F⟩ := O.b
    exact ⟨a, CB, dx, _, e, h, f2_lv _ _, _, f, fd, _, _, T.clB, m, F, R, b, r, _, rfl, hs, rfl, dp, d8, q⟩
  | frk t s u =>
    obtain ⟨a, dx, x, y, e, h, z⟩ := id hs
    obtain ⟨f, fd, m, b, F⟩ := O.f
    exact ⟨a, CF, dx, _, e, h, f3_lv _ _ _, _, f, fd, _, _, T.clF, m, F, R, b, r, _, rfl, hs, rfl, dp, d8, q⟩
theorem ndTIOS : (["tree", "inner", "outer", "self"] : List Str).Nodup := by decide +kernel
theorem scEL : FnScope ["self"] ["self"] (defScope sELv) := ⟨rfl, rfl, rfl, by decide +kernel, rfl, by decide +kernel, by decide +kernel⟩
theorem ok_EL {f : Addr} {fd : FuncData} {d : Nat} (F : Fun K "leaves" "End.leaves" sELv f fd) : FnOk P w K mg base CX0 (3 + d) f fd ["self"] (spLvX CE CC CB CF 0 d) := by
  refine FnOk.mono (F.ok (k := 0) scEL (fun vs H Q E h => ?_) (fun cdv A outer s H vs Q E hr h => ?_)) (by lia)
  · obtain ⟨_, _, rfl, _⟩ := h; rfl
  · obtain ⟨v, S, rfl, hs, hh, dp, ⟨d8, d9⟩, q⟩ := h
    cases S with
    | fin =>
      refine ⟨_, pss_one (ps_ret (pe_lst (pa_cons (pe_tup (pa_cons (pe_tup pa_nil) (pa_cons (pe_tup pa_nil) (pa_cons (pe_tup pa_nil) pa_nil)))) pa_nil))), ?_⟩
      refine ⟨Nat.zero_le _, fun b hb => ⟨Nat.zero_le _, fun c hc => ⟨Nat.zero_le _, fun d hd => ⟨by show 3 <= sizeLine; decide, fun a ha => ⟨by show 1 <= sizeLine; decide, fun l hl => ?_⟩⟩⟩⟩⟩
      have s1 := Same.new (o := HO.tup []) hb
      have s2 := Same.new (o := HO.tup []) hc
      have s3 := Same.new (o := HO.tup []) hd
      have s4 := Same.new (o := HO.tup [.ref b, .ref c, .ref d]) ha
      have s5 := Same.new (o := HO.lst [.ref a]) hl
      refine q l _ [([], [], [])] _ (s1.trans (s2.trans (s3.trans (s4.trans s5)))) ((s1.trans (s2.trans (s3.trans s4))).free hl) upd_same (.cons (LeafAt.mk (s5 _ _ upd_same) (s5 _ _ (s4 _ _ (s3 _ _ (s2 _ _ upd_same)))) (s5 _ _ (s4 _ _ (s3 _ _ upd_same))) (s5 _ _ (s4 _ _ upd_same))) .nil) ⟨List.Perm.refl _, List.pairwise_singleton _ _⟩
    | _ => cases hh
theorem scCL : FnScope ["self", "below"] ["self"] (defScope sCLv) := ⟨rfl, rfl, rfl, by decide +kernel, rfl, by decide +kernel, by decide +kernel⟩
theorem ok_CL {f : Addr} {fd : FuncData} {d : Nat} (F : Fun K "leaves" "Curl.leaves" sCLv f fd) (X : Txt K mg) (T : StK K mg CE CC CB CF) (DW : Def P w K mg base 1 "with_tie" ["ties", "tie"] spWith) (O : LvOk P w K mg base CE CC CB CF d) : FnOk P w K mg base CX0 (3 + (d + 1)) f fd ["self"] (spLvX CE CC CB CF 1 (d + 1)) := by
  refine FnOk.mono (F.ok (k := 3 + d) scCL (fun vs H Q E h => ?_) (fun cdv A outer s H vs Q E hr h => ?_)) (by lia)
  · obtain ⟨_, _, rfl, _⟩ := h; rfl
  · obtain ⟨v, S, rfl, hs, hh, dp, ⟨d8, d9⟩, q⟩ := h
    cases S with
    | curl t s =>
      obtain ⟨a, dx, r, rfl, ha, hr0⟩ := hs
      have hr1 : Room 1 _ := hr.mono (by lia)
      have sd : s.deep <= d := Nat.le_of_succ_le_succ dp
      refine ⟨_, pss_cons (ps_set (i := 1) scCL.nd rfl (Or.inl rfl) (pe_methA (pe_fld (pv 0) rfl)))
        (pss_one (ps_ret (pe_callB (call_sortedN (units66 hr)) (by rfl) X.sorted boot_sorted' (pa_cons (pe_comp (N' := ["tree", "inner", "outer", "self"]) (fr := [none, none, none, some 0]) (compOk_of (by rfl)) rfl (pi_seqK K .l (pv 1))
          (g := gTup K 3 (gCons (gName 0) (gCons (gName 1) (gCons (gName 2) gNil)))) (fun _ _ _ _ => pg_tupK K 3 rfl (pgs_cons (pg_name (i := 0) ndTIOS rfl (Or.inl rfl) (Or.inr rfl)) (pgs_cons (pg_name (i := 1) ndTIOS rfl (Or.inl rfl) (Or.inr rfl)) (pgs_cons (pg_name (i := 2) ndTIOS rfl (Or.inl rfl) (Or.inr rfl)) pgs_nil)))) (fun _ _ _ _ => pifs_nil)
          (fun _ _ _ _ => pe_tup (pa_cons (pv 0) (pa_cons (pv 1) (pa_cons (pe_def DW hr1 rfl (pa_cons (pv 2) (pa_cons (pe_fldK K (pv 3) rfl) pa_nil))) pa_nil))))) pa_nil)))), ?_⟩
      refine seq_abs fun M hM => ?_
      refine ⟨_, rfl, a, CC, dx, _, r, rfl, ha, T.clC, T.c2, f2_rest _ _, ?_⟩
      refine meth_lv T O hr hr0 sd ⟨by lia, fitC d9⟩ fun l xs N H1 s1 hl0 hl hx lv => hM _ _ ?_
      clear hM M
      try dsimp only [List.set]
      have xl : xs.length = N.length := Paired.length hx
      have n256 := lvs256 lv (fitC d9)
      refine ⟨_, rfl, l, rfl, ⟨_, SqL.of hl⟩, comp_seq (k := .l) (K := K) (a := l) (xs := xs) (fun σ => ∃ u v r, σ = [u, v, r, some (.ref a)]) (fun i ys H' => Same H1 H' /\ Paired (LeafAt H') ys ((N.take i).map (lC t))) ⟨_, _, _, rfl⟩ ⟨Same.refl _, .nil⟩ (natB (by lia)) (fun i ys H' _ z => SqL.of (z.1 _ _ hl)) ?_ ?_⟩
      · rintro i x ys σ H2 Z hx2 ⟨u, v, r2, rfl⟩ ⟨sm, P2⟩ hZ
        obtain ⟨y, ey, hy⟩ := Paired.at hx hx2
        obtain ⟨b, c1, c2, c3, rfl, hb, h1, h2, h3⟩ := LeafAt.ex (NestAt.same hy sm)
        obtain ⟨⟨_, _, u3⟩, _, _, l3⟩ := lvs_up s y (lv.1.subset (List.mem_of_getElem? ey))
        refine ⟨b, _, rfl, SqT.of hb, rfl, _, _, rfl, _, _, rfl, _, _, rfl, rfl, ?_⟩
        dsimp only [gName, List.set]
        refine yesT ⟨_, rfl, _, rfl, _, rfl, _, rfl, a, CC, dx, _, _, rfl, sm _ _ (s1 _ _ ha), T.clC, T.c1, f2_tie _ _, c3, _, t, rfl, h3, u3, by lia, fun p H3 s3 hp => ?_⟩
        refine ⟨by show 3 <= sizeLine; decide, fun g hg => ?_⟩
        have s4 := Same.new (o := HO.tup [.ref c1, .ref c2, .ref p]) hg
        refine hZ _ _ _ ⟨_, _, _, rfl⟩ ⟨sm.trans (s3.trans s4), ?_⟩ (by simp)
        rw [take_succ_of ey, List.map_append]
        exact L2.Paired.snoc (leafs_same P2 (s3.trans s4)) (LeafAt.mk upd_same (s4 _ _ (s3 _ _ h1)) (s4 _ _ (s3 _ _ h2)) (s4 _ _ hp))
      · rintro ys H2 ⟨sm, P2⟩ p2 hp2
        rw [xl, List.take_length] at P2
        have s3 := Same.new (o := HO.lst ys) hp2
        have P3 := leafs_same P2 s3
        have yl : ys.length <= 800 := by have := Paired.length P3; rw [List.length_map] at this; lia
        refine ⟨p2, ys, _, rfl, SqL.of upd_same, by lia, nest_map P3, fun z hz => ?_, fun g rs L hP pm up hg => ?_⟩
        · obtain ⟨y, _, rfl⟩ := List.mem_map.mp hz
          exact fun e => nomatch e
        · obtain ⟨M', rfl, pM⟩ := sort_back pm
          have s4 := Same.new (o := HO.lst rs) hg
          have sA := s1.trans (sm.trans (s3.trans s4))
          exact q g rs M' _ sA ((s1.trans (sm.trans s3)).free hg) upd_same (leafs_same (nest_back hP) s4) ⟨pM.trans (lv.1.map (lC t)), up⟩
    | _ => cases hh
theorem scBL : FnScope ["self", "below"] ["self"] (defScope sBLv) := ⟨rfl, rfl, rfl, by decide +kernel, rfl, by decide +kernel, by decide +kernel⟩
theorem ok_BL {f : Addr} {fd : FuncData} {d : Nat} (F : Fun K "leaves" "Bridge.leaves" sBLv f fd) (X : Txt K mg) (T : StK K mg CE CC CB CF) (DW : Def P w K mg base 1 "with_tie" ["ties", "tie"] spWith) (O : LvOk P w K mg base CE CC CB CF d) : FnOk P w K mg base CX0 (3 + (d + 1)) f fd ["self"] (spLvX CE CC CB CF 2 (d + 1)) := by
  refine FnOk.mono (F.ok (k := 3 + d) scBL (fun vs H Q E h => ?_) (fun cdv A outer s H vs Q E hr h => ?_)) (by lia)
  · obtain ⟨_, _, rfl, _⟩ := h; rfl
  · obtain ⟨v, S, rfl, hs, hh, dp, ⟨d8, d9⟩, q⟩ := h
    cases S with
    | bri t s =>
      obtain ⟨a, dx, r, rfl, ha, hr0⟩ := hs
      have hr1 : Room 1 _ := hr.mono (by lia)
      have sd : s.deep <= d := Nat.le_of_succ_le_succ dp
      refine ⟨_, pss_cons (ps_set (i := 1) scBL.nd rfl (Or.inl rfl) (pe_methA (pe_fld (pv 0) rfl)))
        (pss_one (ps_ret (pe_callB (call_sortedN (units66 hr)) (by rfl) X.sorted boot_sorted' (pa_cons (pe_comp (N' := ["tree", "inner", "outer", "self"]) (fr := [none, none, none, some 0]) (compOk_of (by rfl)) rfl (pi_seqK K .l (pv 1))
          (g := gTup K 3 (gCons (gName 0) (gCons (gName 1) (gCons (gName 2) gNil)))) (fun _ _ _ _ => pg_tupK K 3 rfl (pgs_cons (pg_name (i := 0) ndTIOS rfl (Or.inl rfl) (Or.inr rfl)) (pgs_cons (pg_name (i := 1) ndTIOS rfl (Or.inl rfl) (Or.inr rfl)) (pgs_cons (pg_name (i := 2) ndTIOS rfl (Or.inl rfl) (Or.inr rfl)) pgs_nil)))) (fun _ _ _ _ => pifs_nil)
          (fun _ _ _ _ => pe_tup (pa_cons (pe_def DW hr1 rfl (pa_cons (pv 0) (pa_cons (pe_fldK K (pv 3) rfl) pa_nil))) (pa_cons (pe_def DW hr1 rfl (pa_cons (pv 1) (pa_cons (pe_fldK K (pv 3) rfl) pa_nil))) (pa_cons (pv 2) pa_nil))))) pa_nil)))), ?_⟩
      refine seq_abs fun M hM => ?_
      refine ⟨_, rfl, a, CB, dx, _, r, rfl, ha, T.clB, T.b2, f2_rest _ _, ?_⟩
      refine meth_lv T O hr hr0 sd ⟨by lia, fitB d9⟩ fun l xs N H1 s1 hl0 hl hx lv => hM _ _ ?_
      clear hM M
      try dsimp only [List.set]
      have xl : xs.length = N.length := Paired.length hx
      have n256 := lvs256 lv (fitB d9)
      refine ⟨_, rfl, l, rfl, ⟨_, SqL.of hl⟩, comp_seq (k := .l) (K := K) (a := l) (xs := xs) (fun σ => ∃ u v r, σ = [u, v, r, some (.ref a)]) (fun i ys H' => Same H1 H' /\ Paired (LeafAt H') ys ((N.take i).map (lB t))) ⟨_, _, _, rfl⟩ ⟨Same.refl _, .nil⟩ (natB (by lia)) (fun i ys H' _ z => SqL.of (z.1 _ _ hl)) ?_ ?_⟩
      · rintro i x ys σ H2 Z hx2 ⟨u, v, r2, rfl⟩ ⟨sm, P2⟩ hZ
        obtain ⟨y, ey, hy⟩ := Paired.at hx hx2
        obtain ⟨b, c1, c2, c3, rfl, hb, h1, h2, h3⟩ := LeafAt.ex (NestAt.same hy sm)
        obtain ⟨⟨u1, u2, _⟩, l1, l2, _⟩ := lvs_up s y (lv.1.subset (List.mem_of_getElem? ey))
        refine ⟨b, _, rfl, SqT.of hb, rfl, _, _, rfl, _, _, rfl, _, _, rfl, rfl, ?_⟩
        dsimp only [gName, List.set]
        refine yesT ⟨_, rfl, _, rfl, a, CB, dx, _, _, rfl, sm _ _ (s1 _ _ ha), T.clB, T.b1, f2_tie _ _, c1, _, t, rfl, h1, u1, by lia, fun p H3 s3 hp => ?_⟩
        refine ⟨_, rfl, _, rfl, a, CB, dx, _, _, rfl, s3 _ _ (sm _ _ (s1 _ _ ha)), T.clB, T.b1, f2_tie _ _, c2, _, t, rfl, s3 _ _ h2, u2, by lia, fun p' H3' s3' hp' => ?_⟩
        refine ⟨_, rfl, by show 3 <= sizeLine; decide, fun g hg => ?_⟩
        have s4 := Same.new (o := HO.tup [.ref p, .ref p', .ref c3]) hg
        have s34 := s3.trans (s3'.trans s4)
        refine hZ _ _ _ ⟨_, _, _, rfl⟩ ⟨sm.trans s34, ?_⟩ (by simp)
        rw [take_succ_of ey, List.map_append]
        exact L2.Paired.snoc (leafs_same P2 s34) (LeafAt.mk upd_same (s4 _ _ (s3' _ _ hp)) (s4 _ _ hp') (s34 _ _ h3))
      · rintro ys H2 ⟨sm, P2⟩ p2 hp2
        rw [xl, List.take_length] at P2
        have s3 := Same.new (o := HO.lst ys) hp2
        have P3 := leafs_same P2 s3
        have yl : ys.length <= 800 := by have := Paired.length P3; rw [List.length_map] at this; lia
        refine ⟨p2, ys, _, rfl, SqL.of upd_same, by lia, nest_map P3, fun z hz => ?_, fun g rs L hP pm up hg => ?_⟩
        · obtain ⟨y, _, rfl⟩ := List.mem_map.mp hz
          exact fun e => nomatch e
        · obtain ⟨M', rfl, pM⟩ := sort_back pm
          have s4 := Same.new (o := HO.lst rs) hg
          have sA := s1.trans (sm.trans (s3.trans s4))
          exact q g rs M' _ sA ((s1.trans (sm.trans s3)).free hg) upd_same (leafs_same (nest_back hP) s4) ⟨pM.trans (lv.1.map (lB t)), up⟩
    | _ => cases hh
theorem scFL : FnScope ["self", "below", "held"] ["self"] (defScope sFLv) := ⟨rfl, rfl, rfl, by decide +kernel, rfl, by decide +kernel, by decide +kernel⟩
theorem ok_FL {f : Addr} {fd : FuncData} {d : Nat} (F : Fun K "leaves" "Fork.leaves" sFLv f fd) (X : Txt K mg) (T : StK K mg CE CC CB CF) (DW : Def P w K mg base 1 "with_tie" ["ties", "tie"] spWith) (O : LvOk P w K mg base CE CC CB CF d) : FnOk P w K mg base CX0 (3 + (d + 1)) f fd ["self"] (spLvX CE CC CB CF 3 (d + 1)) := by
  refine FnOk.mono (F.ok (k := 3 + d) scFL (fun vs H Q E h => ?_) (fun cdv A outer s H vs Q E hr h => ?_)) (by lia)
  · obtain ⟨_, _, rfl, _⟩ := h; rfl
  · obtain ⟨v, S, rfl, hs, hh, dp, ⟨d8, d9⟩, q⟩ := h
    cases S with
    | frk t x y =>
      obtain ⟨a, dx, r, u, rfl, ha, hx0, hy0⟩ := hs
      have hr1 : Room 1 _ := hr.mono (by lia)
      have dm : max x.deep y.deep <= d := Nat.le_of_succ_le_succ dp
      have xd : x.deep <= d := Nat.le_trans (Nat.le_max_left _ _) dm
      have yd : y.deep <= d := Nat.le_trans (Nat.le_max_right _ _) dm
      refine ⟨_, pss_cons (ps_set (i := 1) scFL.nd rfl (Or.inl rfl) (pe_methA (pe_fld (pv 0) rfl)))
        (pss_cons (ps_setComp (i := 2) scFL.nd rfl (Or.inl rfl) (N' := ["tree", "inner", "outer", "self"]) (fr := [none, none, none, some 0]) (compOk_of (by rfl)) rfl (pi_seqK K .l (pv 1))
          (g := gTup K 3 (gCons (gName 0) (gCons (gName 1) (gCons (gName 2) gNil)))) (fun _ _ _ _ => pg_tupK K 3 rfl (pgs_cons (pg_name (i := 0) ndTIOS rfl (Or.inl rfl) (Or.inr rfl)) (pgs_cons (pg_name (i := 1) ndTIOS rfl (Or.inl rfl) (Or.inr rfl)) (pgs_cons (pg_name (i := 2) ndTIOS rfl (Or.inl rfl) (Or.inr rfl)) pgs_nil)))) (fun _ _ _ _ => pifs_nil)
          (fun _ _ _ _ => pe_tup (pa_cons (pe_def DW hr1 rfl (pa_cons (pv 0) (pa_cons (pe_fldK K (pv 3) rfl) pa_nil))) (pa_cons (pv 1) (pa_cons (pv 2) pa_nil)))))
        (pss_one (ps_ret (pe_callB (call_sortedN (units66 hr)) (by rfl) X.sorted boot_sorted' (pa_cons (pe_op op_cat (pe_methA (pe_fld (pv 0) rfl)) (pv 2)) pa_nil))))), ?_⟩
      refine seq_abs fun M hM => ?_
      refine ⟨_, rfl, a, CF, dx, _, u, rfl, ha, T.clF, T.x3, f3_in _ _ _, ?_⟩
      refine meth_lv T O hr hy0 yd ⟨by lia, (fitF d9).2⟩ fun l xs N H1 s1 hl0 hl hx lv => hM _ _ ?_
      clear hM M
      try dsimp only [List.set]
      have xl : xs.length = N.length := Paired.length hx
      have n256 := lvs256 lv (fitF d9).2
      refine seq_abs fun M hM => ?_
      refine ⟨_, rfl, l, rfl, ⟨_, SqL.of hl⟩, comp_seq (k := .l) (K := K) (a := l) (xs := xs) (fun σ => ∃ u v r, σ = [u, v, r, some (.ref a)]) (fun i ys H' => Same H1 H' /\ Paired (LeafAt H') ys ((N.take i).map (lF t))) ⟨_, _, _, rfl⟩ ⟨Same.refl _, .nil⟩ (natB (by lia)) (fun i ys H' _ z => SqL.of (z.1 _ _ hl)) ?_ ?_⟩
      · rintro i z ys σ H2 Z hx2 ⟨u', v, r2, rfl⟩ ⟨sm, P2⟩ hZ
        obtain ⟨w, ey, hy⟩ := Paired.at hx hx2
        obtain ⟨b, c1, c2, c3, rfl, hb, h1, h2, h3⟩ := LeafAt.ex (NestAt.same hy sm)
        obtain ⟨⟨u1, _, _⟩, l1, _, _⟩ := lvs_up y w (lv.1.subset (List.mem_of_getElem? ey))
        refine ⟨b, _, rfl, SqT.of hb, rfl, _, _, rfl, _, _, rfl, _, _, rfl, rfl, ?_⟩
        dsimp only [gName, List.set]
        refine yesT ⟨_, rfl, _, rfl, a, CF, dx, _, _, rfl, sm _ _ (s1 _ _ ha), T.clF, T.x1, f3_tie _ _ _, c1, _, t, rfl, h1, u1, by lia, fun p H3 s3 hp => ?_⟩
        refine ⟨_, rfl, _, rfl, by show 3 <= sizeLine; decide, fun g hg => ?_⟩
        have s4 := Same.new (o := HO.tup [.ref p, .ref c2, .ref c3]) hg
        refine hZ _ _ _ ⟨_, _, _, rfl⟩ ⟨sm.trans (s3.trans s4), ?_⟩ (by simp)
        rw [take_succ_of ey, List.map_append]
        exact L2.Paired.snoc (leafs_same P2 (s3.trans s4)) (LeafAt.mk upd_same (s4 _ _ hp) (s4 _ _ (s3 _ _ h2)) (s4 _ _ (s3 _ _ h3)))
      rintro ys H2 ⟨sm, P2⟩ p2 hp2
      rw [xl, List.take_length] at P2
      have s3 := Same.new (o := HO.lst ys) hp2
      have P3 := leafs_same P2 s3
      have h3 : (upd H2 p2 (.lst ys)) p2 = some (.lst ys) := upd_same
      have yl : ys.length <= 800 := by have := Paired.length P3; rw [List.length_map] at this; lia
      have sA := s1.trans (sm.trans s3)
      generalize upd H2 p2 (.lst ys) = H3 at s3 P3 h3 sA ⊢
      refine hM _ _ ?_
      clear hM M
      try dsimp only [List.set]
      refine ⟨_, rfl, a, CF, dx, _, r, rfl, sA _ _ ha, T.clF, T.x2, f3_out _ _ _, ?_⟩
      refine meth_lv T O hr (hx0.same sA) xd ⟨by lia, (fitF d9).1⟩ fun l5 xs5 N5 H5 s5 hl50 hl5 hx5 lv5 => ?_
      have n5 := lvs256 lv5 (fitF d9).1
      have xl5 : xs5.length = N5.length := Paired.length hx5
      refine ⟨_, rfl, l5, p2, _, _, rfl, rfl, hl5, s5 _ _ h3, Nat.le_of_lt (natB (by lia)), fun p6 hp6 => ?_⟩
      have s6 := Same.new (o := HO.lst (xs5 ++ ys)) hp6
      have P6 : Paired (LeafAt (upd H5 p6 (.lst (xs5 ++ ys)))) (xs5 ++ ys) (N5 ++ N.map (lF t)) := Paired.app (leafs_same hx5 s6) (leafs_same P3 (s5.trans s6))
      refine ⟨p6, _, _, rfl, SqL.of upd_same, by rw [List.length_append]; lia, nest_map P6, fun z hz => ?_, fun g rs L hP pm up hg => ?_⟩
      · obtain ⟨y, _, rfl⟩ := List.mem_map.mp hz
        exact fun e => nomatch e
      · obtain ⟨M', rfl, pM⟩ := sort_back pm
        have s7 := Same.new (o := HO.lst rs) hg
        have sB := sA.trans (s5.trans s6)
        exact q g rs M' _ (sB.trans s7) (sB.free hg) upd_same (leafs_same (nest_back hP) s7) ⟨pM.trans (lv5.1.append (lv.1.map (lF t))), up⟩
    | _ => cases hh
theorem lv_ok (X : Txt K mg) (T : StK K mg CE CC CB CF) (TL : StL K CE CC CB CF) (DW : Def P w K mg base 1 "with_tie" ["ties", "tie"] spWith) : ∀ d, LvOk P w K mg base CE CC CB CF d
  | 0 => by
    obtain ⟨fe, de, me, Fe, be⟩ := TL.lE
    obtain ⟨fc, dc, mc, Fc, bc⟩ := TL.lC
    obtain ⟨fb, db, mb, Fb, bb⟩ := TL.lB
    obtain ⟨ff, df, mf, Ff, bf⟩ := TL.lF
    have bad : ∀ {f : Addr} {fd : FuncData} {c : Nat}, c ≠ 0 -> FnOk P w K mg base CX0 (3 + 0) f fd ["self"] (spLvX CE CC CB CF c 0) := fun {f fd c} c0 => by
      have no : ∀ vs H Q E, ¬ spLvX CE CC CB CF c 0 vs H Q E := fun vs H Q E h => by
        obtain ⟨v, S, _, _, hh, dp, _⟩ := h
        cases S with
        | fin => exact c0 hh.symm
        | curl _ _ => exact absurd dp (Nat.not_succ_le_zero _)
        | bri _ _ => exact absurd dp (Nat.not_succ_le_zero _)
        | frk _ _ _ => exact absurd dp (Nat.not_succ_le_zero _)
      exact ⟨fun vs H Q E h => (no vs H Q E h).elim, fun A outer s H args us vs Q E _ _ _ _ h => (no vs H Q E h).elim⟩
    exact ⟨⟨fe, de, me, be, ok_EL Fe⟩, ⟨fc, dc, mc, bc, bad (by decide)⟩, ⟨fb, db, mb, bb, bad (by decide)⟩, ⟨ff, df, mf, bf, bad (by decide)⟩⟩
  | d + 1 => by
    have O := lv_ok X T TL DW d
    obtain ⟨fe, de, me, Fe, be⟩ := TL.lE
    obtain ⟨fc, dc, mc, Fc, bc⟩ := TL.lC
    obtain ⟨fb, db, mb, Fb, bb⟩ := TL.lB
    obtain ⟨ff, df, mf, Ff, bf⟩ := TL.lF
    exact ⟨⟨fe, de, me, be, ok_EL Fe⟩, ⟨fc, dc, mc, bc, ok_CL Fc X T DW O⟩, ⟨fb, db, mb, bb, ok_BL Fb X T DW O⟩, ⟨ff, df, mf, bf, ok_FL Ff X T DW O⟩⟩
structure MyOk (P : Program) (w : World) (K : W.Frag) (mg : Str -> Option Value) (base : Heap) (CE CC CB CF : Addr) (d : Nat) : Prop where
  e : ∃ f fd, Meth K CE "many" f /\ Binds K fd ["self"] [] /\ FnOk P w K mg base CX0 (3 + d) f fd ["self"] (spMyX CE CC CB CF 0 d)
  c : ∃ f fd, Meth K CC "many" f /\ Binds K fd ["self"] [] /\ FnOk P w K mg base CX0 (3 + d) f fd ["self"] (spMyX CE CC CB CF 1 d)
  b : ∃ f fd, Meth K CB "many" f /\ Binds K fd ["self"] [] /\ FnOk P w K mg base CX0 (3 + d) f fd ["self"] (spMyX CE CC CB CF 2 d)
  f : ∃ f fd, Meth K CF "many" f /\ Binds K fd ["self"] [] /\ FnOk P w K mg base CX0 (3 + d) f fd ["self"] (spMyX CE CC CB CF 3 d)
theorem meth_my {A : Around} {d : Nat} (T : StK K mg CE CC CB CF) (O : MyOk P w K mg base CE CC CB CF d) (R : Room (3 + d) A) {H : Hp} {Q : VK} {r : V} {S : Stp} (hs : StepAt CE CC CB CF H S r) (dp : S.deep <= d) (d8 : d <= 30 /\ (lvs S).length <= 400)
    (q : ∀ H', Same H H' -> Q (.int ((lvs S).length : Int)) H') :
    ∃ a C dx fs, r = .ref a /\ H a = some (.ins C dx fs) /\ fs.lookup ("many" : Str) = none /\
      ∃ (k : Nat) (f : Addr) (fd : FuncData) (ps : List Str) (sp : Sp), Cls K C /\ Meth K C "many" f /\ FnOk P w K mg base CX0 k f fd ps sp /\ Room k A /\ Binds K fd ps [] /\ sp [r] H Q E0 := by
  cases S with
  | fin =>
    obtain ⟨a, dx, e, h⟩ := id hs
    obtain ⟨f, fd, m, b, F⟩ := O.e
    exact ⟨a, CE, dx, _, e, h, rfl, _, f, fd, _, _, T.clE, m, F, R, b, r, _, rfl, hs, rfl, dp, d8, q⟩
  | curl t s =>
    obtain ⟨a, dx, x, e, h, z⟩ := id hs
    obtain ⟨f, fd, m, b, F⟩ := O.c
    exact ⟨a, CC, dx, _, e, h, f2_my _ _, _, f, fd, _, _, T.clC, m, F, R, b, r, _, rfl, hs, rfl, dp, d8, q⟩
  | bri t s =>
    obtain ⟨a, dx, x, e, h, z⟩ := id hs
    obtain ⟨f, fd, m, b, F⟩ := O.b
    exact ⟨a, CB, dx, _, e, h, f2_my _ _, _, f, fd, _, _, T.clB, m, F, R, b, r, _, rfl, hs, rfl, dp, d8, q⟩
  | frk t s u =>
    obtain ⟨a, dx, x, y, e, h, z⟩ := id hs
    obtain ⟨f, fd, m, b, F⟩ := O.f
    exact ⟨a, CF, dx, _, e, h, f3_my _ _ _, _, f, fd, _, _, T.clF, m, F, R, b, r, _, rfl, hs, rfl, dp, d8, q⟩
theorem scEM : FnScope ["self"] ["self"] (defScope sEMany) := ⟨rfl, rfl, rfl, by decide +kernel, rfl, by decide +kernel, by decide +kernel⟩
theorem ok_EM {f : Addr} {fd : FuncData} {d : Nat} (F : Fun K "many" "End.many" sEMany f fd) : FnOk P w K mg base CX0 (3 + d) f fd ["self"] (spMyX CE CC CB CF 0 d) := by
  refine FnOk.mono (F.ok (k := 0) scEM (fun vs H Q E h => ?_) (fun cdv A outer s H vs Q E hr h => ?_)) (by lia)
  · obtain ⟨_, _, rfl, _⟩ := h; rfl
  · obtain ⟨v, S, rfl, hs, hh, dp, ⟨d8, d9⟩, q⟩ := h
    cases S with
    | fin => exact ⟨_, pss_one (ps_ret pe_int), q H (Same.refl _)⟩
    | _ => cases hh
theorem scCM : FnScope ["self"] ["self"] (defScope sCMany) := ⟨rfl, rfl, rfl, by decide +kernel, rfl, by decide +kernel, by decide +kernel⟩
theorem ok_CM {f : Addr} {fd : FuncData} {d : Nat} (F : Fun K "many" "Curl.many" sCMany f fd) (T : StK K mg CE CC CB CF) (O : MyOk P w K mg base CE CC CB CF d) : FnOk P w K mg base CX0 (3 + (d + 1)) f fd ["self"] (spMyX CE CC CB CF 1 (d + 1)) := by
  refine FnOk.mono (F.ok (k := 3 + d) scCM (fun vs H Q E h => ?_) (fun cdv A outer s H vs Q E hr h => ?_)) (by lia)
  · obtain ⟨_, _, rfl, _⟩ := h; rfl
  · obtain ⟨v, S, rfl, hs, hh, dp, ⟨d8, d9⟩, q⟩ := h
    cases S with
    | curl t s =>
      obtain ⟨a, dx, r, rfl, ha, hr0⟩ := hs
      have sd : s.deep <= d := Nat.le_of_succ_le_succ dp
      refine ⟨_, pss_one (ps_ret (pe_methA (pe_fld (pv 0) rfl))), ?_⟩
      refine ⟨_, rfl, a, CC, dx, _, r, rfl, ha, T.clC, T.c2, f2_rest _ _, ?_⟩
      refine meth_my T O hr hr0 sd ⟨by lia, fitC d9⟩ fun H1 s1 => ?_
      have := q H1 s1
      unfold lvs at this
      rw [List.length_map] at this
      exact this
    | _ => cases hh
theorem scBM : FnScope ["self"] ["self"] (defScope sBMany) := ⟨rfl, rfl, rfl, by decide +kernel, rfl, by decide +kernel, by decide +kernel⟩
theorem ok_BM {f : Addr} {fd : FuncData} {d : Nat} (F : Fun K "many" "Bridge.many" sBMany f fd) (T : StK K mg CE CC CB CF) (O : MyOk P w K mg base CE CC CB CF d) : FnOk P w K mg base CX0 (3 + (d + 1)) f fd ["self"] (spMyX CE CC CB CF 2 (d + 1)) := by
  refine FnOk.mono (F.ok (k := 3 + d) scBM (fun vs H Q E h => ?_) (fun cdv A outer s H vs Q E hr h => ?_)) (by lia)
  · obtain ⟨_, _, rfl, _⟩ := h; rfl
  · obtain ⟨v, S, rfl, hs, hh, dp, ⟨d8, d9⟩, q⟩ := h
    cases S with
    | bri t s =>
      obtain ⟨a, dx, r, rfl, ha, hr0⟩ := hs
      have sd : s.deep <= d := Nat.le_of_succ_le_succ dp
      refine ⟨_, pss_one (ps_ret (pe_methA (pe_fld (pv 0) rfl))), ?_⟩
      refine ⟨_, rfl, a, CB, dx, _, r, rfl, ha, T.clB, T.b2, f2_rest _ _, ?_⟩
      refine meth_my T O hr hr0 sd ⟨by lia, fitB d9⟩ fun H1 s1 => ?_
      have := q H1 s1
      unfold lvs at this
      rw [List.length_map] at this
      exact this
    | _ => cases hh
theorem scFM : FnScope ["self"] ["self"] (defScope sFMany) := ⟨rfl, rfl, rfl, by decide +kernel, rfl, by decide +kernel, by decide +kernel⟩
theorem ok_FM {f : Addr} {fd : FuncData} {d : Nat} (F : Fun K "many" "Fork.many" sFMany f fd) (T : StK K mg CE CC CB CF) (O : MyOk P w K mg base CE CC CB CF d) : FnOk P w K mg base CX0 (3 + (d + 1)) f fd ["self"] (spMyX CE CC CB CF 3 (d + 1)) := by
  refine FnOk.mono (F.ok (k := 3 + d) scFM (fun vs H Q E h => ?_) (fun cdv A outer s H vs Q E hr h => ?_)) (by lia)
  · obtain ⟨_, _, rfl, _⟩ := h; rfl
  · obtain ⟨v, S, rfl, hs, hh, dp, ⟨d8, d9⟩, q⟩ := h
    cases S with
    | frk t x y =>
      obtain ⟨a, dx, r, u, rfl, ha, hx0, hy0⟩ := hs
      have dm : max x.deep y.deep <= d := Nat.le_of_succ_le_succ dp
      have xd : x.deep <= d := Nat.le_trans (Nat.le_max_left _ _) dm
      have yd : y.deep <= d := Nat.le_trans (Nat.le_max_right _ _) dm
      refine ⟨_, pss_one (ps_ret (pe_op op_add (pe_methA (pe_fld (pv 0) rfl)) (pe_methA (pe_fld (pv 0) rfl)))), ?_⟩
      refine ⟨_, rfl, a, CF, dx, _, r, rfl, ha, T.clF, T.x2, f3_out _ _ _, ?_⟩
      refine meth_my T O hr hx0 xd ⟨by lia, (fitF d9).1⟩ fun H1 s1 => ?_
      refine ⟨_, rfl, a, CF, dx, _, u, rfl, s1 _ _ ha, T.clF, T.x3, f3_in _ _ _, ?_⟩
      refine meth_my T O hr (hy0.same s1) yd ⟨by lia, (fitF d9).2⟩ fun H2 s2 => ?_
      refine ⟨_, _, rfl, rfl, ?_⟩
      have := q H2 (s1.trans s2)
      unfold lvs at this
      rw [List.length_append, List.length_map, Int.natCast_add] at this
      exact this
    | _ => cases hh
theorem my_ok (T : StK K mg CE CC CB CF) (TL : StL K CE CC CB CF) : ∀ d, MyOk P w K mg base CE CC CB CF d
  | 0 => by
    obtain ⟨fe, de, me, Fe, be⟩ := TL.mE
    obtain ⟨fc, dc, mc, Fc, bc⟩ := TL.mC
    obtain ⟨fb, db, mb, Fb, bb⟩ := TL.mB
    obtain ⟨ff, df, mf, Ff, bf⟩ := TL.mF
    have bad : ∀ {f : Addr} {fd : FuncData} {c : Nat}, c ≠ 0 -> FnOk P w K mg base CX0 (3 + 0) f fd ["self"] (spMyX CE CC CB CF c 0) := fun {f fd c} c0 => by
      have no : ∀ vs H Q E, ¬ spMyX CE CC CB CF c 0 vs H Q E := fun vs H Q E h => by
        obtain ⟨v, S, _, _, hh, dp, _⟩ := h
        cases S with
        | fin => exact c0 hh.symm
        | curl _ _ => exact absurd dp (Nat.not_succ_le_zero _)
        | bri _ _ => exact absurd dp (Nat.not_succ_le_zero _)
        | frk _ _ _ => exact absurd dp (Nat.not_succ_le_zero _)
      exact ⟨fun vs H Q E h => (no vs H Q E h).elim, fun A outer s H args us vs Q E _ _ _ _ h => (no vs H Q E h).elim⟩
    exact ⟨⟨fe, de, me, be, ok_EM Fe⟩, ⟨fc, dc, mc, bc, bad (by decide)⟩, ⟨fb, db, mb, bb, bad (by decide)⟩, ⟨ff, df, mf, bf, bad (by decide)⟩⟩
  | d + 1 => by
    have O := my_ok T TL d
    obtain ⟨fe, de, me, Fe, be⟩ := TL.mE
    obtain ⟨fc, dc, mc, Fc, bc⟩ := TL.mC
    obtain ⟨fb, db, mb, Fb, bb⟩ := TL.mB
    obtain ⟨ff, df, mf, Ff, bf⟩ := TL.mF
    exact ⟨⟨fe, de, me, be, ok_EM Fe⟩, ⟨fc, dc, mc, bc, ok_CM Fc T O⟩, ⟨fb, db, mb, bb, ok_BM Fb T O⟩, ⟨ff, df, mf, bf, ok_FM Ff T O⟩⟩
end
structure Pe where
  k : Nat
  b : Nat
  d : Nat
  t : Nat
def SolN (P : List Pe) (val f : Nat -> Nat) : Prop := ∀ (i : Nat) (e : Pe), P[i]? = some e -> (e.k = 0 -> f i = val i) /\ (e.k = 1 -> f i = f e.b) /\ (e.k = 2 -> f i = f e.b) /\ (e.k = 3 -> f i = f e.b + f (e.b + 1)) /\ (e.k = 4 -> f i = f e.b + f e.b)
def wtP (P : List Pe) (val : Nat -> Nat) (S : List Nat) : Nat := (S.map fun q => 2 ^ ((P[q]?.map Pe.t).getD 0) * val q).sum
structure PlanOk (P : List Pe) (S : List Nat) : Prop where
  n0 : 0 < P.length
  s0 : 0 < S.length
  nd : S.Nodup
  mem : ∀ q ∈ S, ∃ e : Pe, P[q]? = some e /\ e.k = 0
  kid : ∀ (i : Nat) (e : Pe), P[i]? = some e -> e.k ≠ 0 -> i < e.b /\ (∃ x : Pe, P[e.b]? = some x /\ x.d = e.d + 1) /\ (e.k = 3 -> ∃ x : Pe, P[e.b + 1]? = some x /\ x.d = e.d + 1)
  dd : ∀ (i : Nat) (e : Pe), P[i]? = some e -> e.d <= 28 /\ e.t <= 2 /\ e.k <= 4
  sum : ∀ val f, SolN P val f -> ∀ i, i < P.length -> f i <= wtP P val S
def kOf (c : Nat) (t : Nat) : Nat := if c = 3 /\ t = 2 then 3 else c + 1
def news (k : Nat) (e : Pe) : List Pe := ⟨0, 0, e.d + 1, e.t + (if k = 4 then 1 else 0)⟩ :: (if k = 3 then [⟨0, 0, e.d + 1, e.t⟩] else [])
def plP (P : List Pe) (p k : Nat) (e : Pe) : List Pe := P.set p ⟨k, P.length, e.d, e.t⟩ ++ news k e
def plS (P : List Pe) (S : List Nat) (j k : Nat) : List Nat := S.eraseIdx j ++ (P.length :: (if k = 3 then [P.length + 1] else []))
theorem pl_get {P : List Pe} {p k : Nat} {e : Pe} {i : Nat} : (plP P p k e)[i]? = if i < P.length then (if i = p then some ⟨k, P.length, e.d, e.t⟩ else P[i]?) else (news k e)[i - P.length]? := by
  unfold plP
  by_cases h : i < P.length
  · rw [if_pos h, List.getElem?_append_left (by rw [List.length_set]; exact h), List.getElem?_set]
    by_cases c : p = i
    · rw [if_pos c, if_pos c.symm, if_pos (c ▸ h)]
    · rw [if_neg c, if_neg (Ne.symm c)]
  · rw [if_neg h, List.getElem?_append_right (by rw [List.length_set]; omega), List.length_set]
theorem news_get {k : Nat} {e x : Pe} {i : Nat} (h : (news k e)[i]? = some x) : x.k = 0 /\ x.d = e.d + 1 /\ x.t <= e.t + (if k = 4 then 1 else 0) := by
  unfold news at h
  match i, h with
  | 0, h => cases h; exact ⟨rfl, rfl, Nat.le_refl _⟩
  | 1, h =>
    by_cases c : k = 3
    · rw [if_pos c] at h; cases h; exact ⟨rfl, rfl, Nat.le_add_right _ _⟩
    · rw [if_neg c] at h; cases h
  | i + 2, h =>
    by_cases c : k = 3
    · rw [if_pos c] at h; cases h
    · rw [if_neg c] at h; cases h
theorem sum_upd {g h : Nat -> Nat} : ∀ {S : List Nat} {j p : Nat}, S.Nodup -> S[j]? = some p -> (∀ q, q ≠ p -> g q = h q) -> (S.map g).sum = ((S.eraseIdx j).map h).sum + g p
  | [], j, p, _, e, _ => by simp at e
  | q :: S, 0, p, nd, e, hh => by
    cases e
    rw [List.eraseIdx_cons_zero, List.map_cons, List.sum_cons]
    have : S.map g = S.map h := List.map_congr_left fun x hx => hh x fun z => (List.nodup_cons.mp nd).1 (z ▸ hx)
    rw [this]
    omega
  | q :: S, j + 1, p, nd, e, hh => by
    rw [List.getElem?_cons_succ] at e
    rw [List.eraseIdx_cons_succ, List.map_cons, List.map_cons, List.sum_cons, List.sum_cons, sum_upd (List.nodup_cons.mp nd).2 e hh, hh q fun z => (List.nodup_cons.mp nd).1 (z ▸ List.mem_of_getElem? e)]
    omega
theorem le_sum : ∀ {l : List Nat} {x : Nat}, x ∈ l -> x <= l.sum
  | [], _, h => nomatch h
  | y :: l, x, h => by
    rw [List.sum_cons]
    rcases List.mem_cons.mp h with rfl | h
    · omega
    · have := le_sum h
      omega
theorem erase_mem {S : List Nat} {j q : Nat} (h : q ∈ S.eraseIdx j) : q ∈ S := List.mem_of_mem_eraseIdx h
theorem PlanOk.step {P : List Pe} {S : List Nat} (h : PlanOk P S) {j p : Nat} (hj : S[j]? = some p) {e : Pe} (he : P[p]? = some e) {c : Nat} (hc : c < 4) (hd : e.d + 1 <= 28) : PlanOk (plP P p (kOf c e.t) e) (plS P S j (kOf c e.t)) := by
  have pm := List.mem_of_getElem? hj
  obtain ⟨e0, g0, ek⟩ := h.mem p pm
  rw [he] at g0
  cases g0
  obtain ⟨_, te, _⟩ := h.dd p e he
  have pl : p < P.length := (List.getElem?_eq_some_iff.mp he).1
  have k4 : kOf c e.t <= 4 /\ kOf c e.t ≠ 0 /\ (kOf c e.t = 4 -> e.t <= 1) := by
    unfold kOf
    split
    · exact ⟨by omega, by omega, by omega⟩
    · exact ⟨by omega, by omega, fun _ => by omega⟩
  generalize kOf c e.t = k at k4
  have lp : (plP P p k e).length = P.length + (if k = 3 then 2 else 1) := by
    unfold plP news
    rw [List.length_append, List.length_set, List.length_cons]
    by_cases c3 : k = 3
    · rw [if_pos c3, if_pos c3]; rfl
    · rw [if_neg c3, if_neg c3]; rfl
  have at0 : (plP P p k e)[P.length]? = some ⟨0, 0, e.d + 1, e.t + (if k = 4 then 1 else 0)⟩ := by
    rw [pl_get, if_neg (Nat.lt_irrefl _), Nat.sub_self]
    rfl
  have at1 : k = 3 -> (plP P p k e)[P.length + 1]? = some ⟨0, 0, e.d + 1, e.t⟩ := fun c3 => by
    rw [pl_get, if_neg (by omega), Nat.add_sub_cancel_left]
    unfold news
    rw [if_pos c3]
    rfl
  have atp : (plP P p k e)[p]? = some ⟨k, P.length, e.d, e.t⟩ := by rw [pl_get, if_pos pl, if_pos rfl]
  have ato : ∀ i, i < P.length -> i ≠ p -> (plP P p k e)[i]? = P[i]? := fun i hi hn => by rw [pl_get, if_pos hi, if_neg hn]
  have notp : ∀ q ∈ S.eraseIdx j, q ≠ p := fun q hq z => by
    subst z
    obtain ⟨i, hi⟩ := List.mem_iff_getElem?.mp hq
    rw [List.getElem?_eraseIdx] at hi
    split at hi
    · have := (List.getElem?_inj (List.getElem?_eq_some_iff.mp hj).1 h.nd).mp (hj.trans hi.symm)
      omega
    · have := (List.getElem?_inj (List.getElem?_eq_some_iff.mp hj).1 h.nd).mp (hj.trans hi.symm)
      omega
  have lp1 : P.length < (plP P p k e).length := by rw [lp]; split <;> omega
  refine ⟨by omega, ?_, ?_, ?_, ?_, ?_, ?_⟩
  · unfold plS
    rw [List.length_append, List.length_cons]
    omega
  · unfold plS
    have low : ∀ q ∈ S.eraseIdx j, q < P.length := fun q hq => by
      obtain ⟨x, hx, _⟩ := h.mem q (erase_mem hq)
      exact (List.getElem?_eq_some_iff.mp hx).1
    refine List.nodup_append.mpr ⟨h.nd.eraseIdx j, ?_, fun a ha b hb z => ?_⟩
    · split
      · simp
      · simp
    · have := low a ha
      subst z
      rcases List.mem_cons.mp hb with z | z
      · omega
      · split at z
        · have := List.mem_singleton.mp z
          omega
        · cases z
  · intro q hq
    unfold plS at hq
    rcases List.mem_append.mp hq with z | z
    · obtain ⟨x, hx, xk⟩ := h.mem q (erase_mem z)
      exact ⟨x, by rw [ato q (List.getElem?_eq_some_iff.mp hx).1 (notp q z)]; exact hx, xk⟩
    · rcases List.mem_cons.mp z with rfl | z
      · exact ⟨_, at0, rfl⟩
      · split at z
        · next c3 =>
          rw [List.mem_singleton.mp z]
          exact ⟨_, at1 c3, rfl⟩
        · cases z
  · intro i x hx xk
    rw [pl_get] at hx
    split at hx
    · next hi =>
      split at hx
      · next ip =>
        cases hx
        refine ⟨by show i < P.length; omega, ⟨_, at0, rfl⟩, fun c3 => ⟨_, at1 c3, rfl⟩⟩
      · obtain ⟨h1, ⟨y, hy, yd⟩, h3⟩ := h.kid i x hx xk
        have keep : ∀ (q : Nat) (y : Pe), P[q]? = some y -> ∃ y' : Pe, (plP P p k e)[q]? = some y' /\ y'.d = y.d := fun q y hy => by
          by_cases z : q = p
          · subst z
            rw [he] at hy
            cases hy
            exact ⟨_, atp, rfl⟩
          · exact ⟨y, by rw [ato q (List.getElem?_eq_some_iff.mp hy).1 z]; exact hy, rfl⟩
        obtain ⟨y', e1, e2⟩ := keep _ _ hy
        refine ⟨h1, ⟨y', e1, by rw [e2, yd]⟩, fun c3 => ?_⟩
        obtain ⟨w, hw, wd⟩ := h3 c3
        obtain ⟨w', e3, e4⟩ := keep _ _ hw
        exact ⟨w', e3, by rw [e4, wd]⟩
    · exact absurd (news_get hx).1 xk
  · intro i x hx
    rw [pl_get] at hx
    split at hx
    · split at hx
      · cases hx
        exact ⟨by show e.d <= 28; omega, te, k4.1⟩
      · exact h.dd i x hx
    · obtain ⟨h1, h2, h3⟩ := news_get hx
      refine ⟨by omega, ?_, by omega⟩
      split at h3
      · next c4 => have := k4.2.2 c4; omega
      · omega
  · intro val f sol i hi
    have s0 : f P.length = val P.length := (sol _ _ at0).1 rfl
    have sp := sol _ _ atp
    have old : SolN P (fun q => if q = p then f p else val q) f := fun i x hx => by
      by_cases z : i = p
      · subst z
        rw [he] at hx
        cases hx
        exact ⟨fun _ => (if_pos rfl).symm, fun z => by omega, fun z => by omega, fun z => by omega, fun z => by omega⟩
      · have := sol i x (by rw [ato i (List.getElem?_eq_some_iff.mp hx).1 z]; exact hx)
        refine ⟨fun w => ?_, this.2⟩
        show f i = if i = p then f p else val i
        rw [if_neg z]
        exact this.1 w
    have key : wtP P (fun q => if q = p then f p else val q) S = wtP (plP P p k e) val (plS P S j k) := by
      unfold wtP plS
      rw [sum_upd (h := fun q => 2 ^ ((P[q]?.map Pe.t).getD 0) * val q) h.nd hj (fun q hq => by dsimp only; rw [if_neg hq])]
      dsimp only
      rw [if_pos rfl, he, List.map_append, List.sum_append]
      have e1 : (S.eraseIdx j).map (fun q => 2 ^ ((P[q]?.map Pe.t).getD 0) * val q) = (S.eraseIdx j).map fun q => 2 ^ (((plP P p k e)[q]?.map Pe.t).getD 0) * val q := List.map_congr_left fun q hq => by
        obtain ⟨x, hx, _⟩ := h.mem q (erase_mem hq)
        rw [ato q (List.getElem?_eq_some_iff.mp hx).1 (notp q hq)]
      rw [e1]
      congr 1
      rw [List.map_cons, List.sum_cons, at0]
      show 2 ^ e.t * f p = 2 ^ (e.t + (if k = 4 then 1 else 0)) * val P.length + _
      by_cases c3 : k = 3
      · have s1 : f (P.length + 1) = val (P.length + 1) := (sol _ _ (at1 c3)).1 rfl
        have := sp.2.2.2.1 c3
        rw [if_pos c3, if_neg (by omega), List.map_cons, List.map_nil, List.sum_cons, List.sum_nil, at1 c3, this]
        show 2 ^ e.t * (f P.length + f (P.length + 1)) = 2 ^ (e.t + 0) * val P.length + (2 ^ e.t * val (P.length + 1) + 0)
        rw [s0, s1, Nat.mul_add]
        rfl
      · rw [if_neg c3, List.map_nil, List.sum_nil]
        by_cases c4 : k = 4
        · have := sp.2.2.2.2 c4
          rw [if_pos c4, this]
          show 2 ^ e.t * (f P.length + f P.length) = _
          rw [s0, Nat.pow_succ, <- Nat.two_mul, Nat.mul_comm 2, <- Nat.mul_assoc, Nat.mul_right_comm]
          rfl
        · rw [if_neg c4]
          have : f p = f P.length := by
            have k12 : k = 1 \/ k = 2 := by omega
            rcases k12 with z | z
            · exact sp.2.1 z
            · exact sp.2.2.1 z
          rw [this, s0]
          rfl
    by_cases hi' : i < P.length
    · rw [<- key]
      exact h.sum _ f old i hi'
    · obtain ⟨x, hx⟩ : ∃ x, (plP P p k e)[i]? = some x := ⟨_, List.getElem?_eq_getElem hi⟩
      have xk : x.k = 0 := by
        rw [pl_get, if_neg hi'] at hx
        exact (news_get hx).1
      rw [(sol i x hx).1 xk]
      have im : i ∈ plS P S j k := by
        unfold plS
        refine List.mem_append.mpr (.inr ?_)
        by_cases z : i = P.length
        · rw [z]; exact List.mem_cons_self
        · by_cases c3 : k = 3
          · rw [if_pos c3] at lp ⊢
            have : i = P.length + 1 := by omega
            rw [this]; simp
          · rw [if_neg c3] at lp
            omega
      unfold wtP
      refine Nat.le_trans ?_ (le_sum (List.mem_map_of_mem im))
      exact Nat.le_mul_of_pos_left _ (Nat.pow_pos (by decide))
theorem plan0 : PlanOk [⟨0, 0, 0, 0⟩] [0] := by
  refine ⟨by decide, by decide, by decide, ?_, ?_, ?_, ?_⟩
  · intro q hq
    rw [List.mem_singleton.mp hq]
    exact ⟨_, rfl, rfl⟩
  · intro i e h
    match i, h with
    | 0, h => cases h; exact fun z => absurd rfl z
    | i + 1, h => cases h
  · intro i e h
    match i, h with
    | 0, h => cases h; exact ⟨by decide, by decide, by decide⟩
    | i + 1, h => cases h
  · intro val f sol i hi
    have : i = 0 := by
      have : i < 1 := hi
      omega
    subst this
    rw [(sol 0 _ rfl).1 rfl]
    show val 0 <= 1 * val 0 + 0
    omega
def trF (P : List Pe) (first : Int) : Nat -> Nat -> Stp
  | 0, _ => .fin
  | f + 1, i => match P[i]? with
    | none => .fin
    | some e => if e.k = 0 then .fin else if e.k = 1 then .curl (first + i) (trF P first f e.b) else if e.k = 2 then .bri (first + i) (trF P first f e.b) else if e.k = 3 then .frk (first + i) (trF P first f e.b) (trF P first f (e.b + 1)) else .frk (first + i) (trF P first f e.b) (trF P first f e.b)
theorem trF_same {P : List Pe} {S : List Nat} (h : PlanOk P S) (first : Int) : ∀ (f g i : Nat), P.length - i <= f -> P.length - i <= g -> trF P first f i = trF P first g i
  | 0, 0, _, _, _ => rfl
  | 0, g + 1, i, hf, _ => by
    have : P[i]? = none := List.getElem?_eq_none_iff.mpr (by omega)
    show Stp.fin = trF P first (g + 1) i
    unfold trF
    rw [this]
  | f + 1, 0, i, _, hg => by
    have : P[i]? = none := List.getElem?_eq_none_iff.mpr (by omega)
    show trF P first (f + 1) i = Stp.fin
    unfold trF
    rw [this]
  | f + 1, g + 1, i, hf, hg => by
    unfold trF
    cases he : P[i]? with
    | none => rfl
    | some e =>
      dsimp only
      by_cases k0 : e.k = 0
      · rw [if_pos k0, if_pos k0]
      · have hb := (h.kid i e he k0).1
        have il := (List.getElem?_eq_some_iff.mp he).1
        rw [trF_same h first f g e.b (by omega) (by omega), trF_same h first f g (e.b + 1) (by omega) (by omega)]
def trT (P : List Pe) (first : Int) (i : Nat) : Stp := trF P first P.length i
structure TrIs (P : List Pe) (first : Int) (T : Nat -> Stp) (i : Nat) (e : Pe) : Prop where
  k0 : e.k = 0 -> T i = .fin
  k1 : e.k = 1 -> T i = .curl (first + i) (T e.b)
  k2 : e.k = 2 -> T i = .bri (first + i) (T e.b)
  k3 : e.k = 3 -> T i = .frk (first + i) (T e.b) (T (e.b + 1))
  k4 : e.k = 4 -> T i = .frk (first + i) (T e.b) (T e.b)
theorem tr_is {P : List Pe} {S : List Nat} (h : PlanOk P S) (first : Int) {i : Nat} {e : Pe} (he : P[i]? = some e) : TrIs P first (trT P first) i e := by
  have il := (List.getElem?_eq_some_iff.mp he).1
  obtain ⟨n, hn⟩ : ∃ n, P.length = n + 1 := ⟨P.length - 1, by omega⟩
  have same : ∀ q, i < q -> trF P first n q = trT P first q := fun q hq => trF_same h first n P.length q (by omega) (by omega)
  have st : trT P first i = if e.k = 0 then .fin else if e.k = 1 then .curl (first + i) (trF P first n e.b) else if e.k = 2 then .bri (first + i) (trF P first n e.b) else if e.k = 3 then .frk (first + i) (trF P first n e.b) (trF P first n (e.b + 1)) else .frk (first + i) (trF P first n e.b) (trF P first n e.b) := by
    unfold trT
    rw [hn]
    conv => lhs; unfold trF
    rw [he]
  refine ⟨fun k => ?_, fun k => ?_, fun k => ?_, fun k => ?_, fun k => ?_⟩
  · rw [st, if_pos k]
  all_goals
    have hb := (h.kid i e he (by omega)).1
    rw [st, same e.b hb, same (e.b + 1) (by omega), k]
    rfl
theorem tr_deep {P : List Pe} {S : List Nat} (h : PlanOk P S) (first : Int) : ∀ (m i : Nat) (e : Pe), P.length - i <= m -> P[i]? = some e -> (trT P first i).deep + e.d <= 28
  | 0, i, e, hm, he => by
    have := (List.getElem?_eq_some_iff.mp he).1
    omega
  | m + 1, i, e, hm, he => by
    have il := (List.getElem?_eq_some_iff.mp he).1
    have T := tr_is h first he
    obtain ⟨dl, _, kl⟩ := h.dd i e he
    by_cases k0 : e.k = 0
    · rw [T.k0 k0]
      show 0 + e.d <= 28
      omega
    · obtain ⟨hb, ⟨x, hx, xd⟩, h3⟩ := h.kid i e he k0
      have d1 := tr_deep h first m e.b x (by omega) hx
      by_cases k1 : e.k = 1
      · rw [T.k1 k1]
        show (trT P first e.b).deep + 1 + e.d <= 28
        omega
      by_cases k2 : e.k = 2
      · rw [T.k2 k2]
        show (trT P first e.b).deep + 1 + e.d <= 28
        omega
      by_cases k3 : e.k = 3
      · obtain ⟨y, hy, yd⟩ := h3 k3
        have d2 := tr_deep h first m (e.b + 1) y (by omega) hy
        rw [T.k3 k3]
        show max (trT P first e.b).deep (trT P first (e.b + 1)).deep + 1 + e.d <= 28
        omega
      · rw [T.k4 (by omega)]
        show max (trT P first e.b).deep (trT P first e.b).deep + 1 + e.d <= 28
        omega
theorem sum_le : ∀ {S : List Nat} {g : Nat -> Nat} {c : Nat}, (∀ q ∈ S, g q <= c) -> (S.map g).sum <= c * S.length
  | [], _, _, _ => Nat.zero_le _
  | q :: S, g, c, h => by
    have h1 := h q List.mem_cons_self
    have h2 := sum_le fun x hx => h x (List.mem_cons_of_mem _ hx)
    rw [List.map_cons, List.sum_cons, List.length_cons, Nat.mul_succ]
    omega
theorem tr_few {P : List Pe} {S : List Nat} (h : PlanOk P S) (first : Int) {i : Nat} (hi : i < P.length) : (lvs (trT P first i)).length <= 4 * S.length := by
  have sol : SolN P (fun _ => 1) (fun i => (lvs (trT P first i)).length) := fun i e he => by
    have T := tr_is h first he
    refine ⟨fun k => ?_, fun k => ?_, fun k => ?_, fun k => ?_, fun k => ?_⟩
    · dsimp only; rw [T.k0 k]; rfl
    · dsimp only; rw [T.k1 k]; exact List.length_map _
    · dsimp only; rw [T.k2 k]; exact List.length_map _
    · dsimp only
      rw [T.k3 k]
      show (lvs _ ++ (lvs _).map _).length = _
      rw [List.length_append, List.length_map]
    · dsimp only
      rw [T.k4 k]
      show (lvs _ ++ (lvs _).map _).length = _
      rw [List.length_append, List.length_map]
  refine Nat.le_trans (h.sum _ _ sol i hi) (sum_le fun q hq => ?_)
  obtain ⟨e, he, _⟩ := h.mem q hq
  obtain ⟨_, t2, _⟩ := h.dd q e he
  rw [he]
  show 2 ^ e.t * 1 <= 4
  have : 2 ^ e.t <= 2 ^ 2 := Nat.pow_le_pow_right (by decide) t2
  omega
theorem tr_ok {P : List Pe} {S : List Nat} (h : PlanOk P S) (hs : S.length <= 41) (first : Int) {i : Nat} (hi : i < P.length) : (trT P first i).deep <= 28 /\ (lvs (trT P first i)).length <= 164 /\ (trT P first i).terms.length <= 164 := by
  have a := tr_deep h first P.length i _ (Nat.sub_le _ _) (List.getElem?_eq_getElem hi)
  have b := tr_few h first hi
  have c := congrArg List.length (lvs_terms (trT P first i))
  rw [List.length_map] at c
  omega
def kStr : Nat -> Str
  | 0 => "end"
  | 1 => "curl"
  | 2 => "bridge"
  | 3 => "fork"
  | _ => "both"
def rowV (e : Pe) : List V := [.str (kStr e.k), .int e.b, .int e.d, .int e.t]
structure PlS (H0 H : Hp) (l st : Addr) (as : List Addr) (P : List Pe) (S : List Nat) : Prop where
  sm : Same H0 H
  hl : H l = some (.lst (as.map V.ref))
  hs : H st = some (.lst ((S.map fun (q : Nat) => (q : Int)).map V.int))
  len : as.length = P.length
  nd : as.Nodup
  fr : ∀ a ∈ as, H0 a = none
  fl : H0 l = none
  fs : H0 st = none
  nl : l ∉ as
  ns : st ∉ as
  ls : l ≠ st
  row : ∀ (i : Nat) (a : Addr) (e : Pe), as[i]? = some a -> P[i]? = some e -> H a = some (.lst (rowV e))
theorem PlS.grow {H0 H H' : Hp} {l st : Addr} {as : List Addr} {P : List Pe} {S : List Nat} (t : PlS H0 H l st as P S) {p : Nat} {a : Addr} {e : Pe} {k j : Nat} {cs : List Addr} (ha : as[p]? = some a) (he : P[p]? = some e)
    (hn : cs.length = (news k e).length) (cn : cs.Nodup) (cf : ∀ c ∈ cs, H c = none) (h1 : H' l = some (.lst ((as ++ cs).map V.ref))) (h2 : H' st = some (.lst (((plS P S j k).map fun (q : Nat) => (q : Int)).map V.int)))
    (h3 : H' a = some (.lst (rowV ⟨k, P.length, e.d, e.t⟩))) (h4 : ∀ (i : Nat) (c : Addr) (x : Pe), cs[i]? = some c -> (news k e)[i]? = some x -> H' c = some (.lst (rowV x))) (h5 : ∀ b o, b ≠ l -> b ≠ st -> b ≠ a -> H b = some o -> H' b = some o) :
    PlS H0 H' l st (as ++ cs) (plP P p k e) (plS P S j k) := by
  have am := List.mem_of_getElem? ha
  have old : ∀ b, H0 b = none -> ∀ o, H0 b = some o -> False := fun b z o w => by rw [z] at w; cases w
  have cH : ∀ c ∈ cs, H0 c = none := fun c hc => t.sm.free (cf c hc)
  refine ⟨fun b o hb => ?_, h1, h2, ?_, ?_, ?_, t.fl, t.fs, ?_, ?_, t.ls, ?_⟩
  · refine h5 b o (fun z => ?_) (fun z => ?_) (fun z => ?_) (t.sm b o hb)
    · rw [z, t.fl] at hb; cases hb
    · rw [z, t.fs] at hb; cases hb
    · rw [z, t.fr a am] at hb; cases hb
  · unfold plP
    rw [List.length_append, List.length_append, List.length_set, t.len, hn]
  · refine List.nodup_append.mpr ⟨t.nd, cn, fun x hx y hy z => ?_⟩
    subst z
    obtain ⟨i, hi⟩ := List.mem_iff_getElem?.mp hx
    have il := (List.getElem?_eq_some_iff.mp hi).1
    have := t.row i x _ hi (List.getElem?_eq_getElem (by rw [<- t.len]; exact il))
    rw [cf x hy] at this
    cases this
  · intro x hx
    rcases List.mem_append.mp hx with z | z
    · exact t.fr x z
    · exact cH x z
  · intro z
    rcases List.mem_append.mp z with z | z
    · exact t.nl z
    · have := cf l z
      rw [t.hl] at this
      cases this
  · intro z
    rcases List.mem_append.mp z with z | z
    · exact t.ns z
    · have := cf st z
      rw [t.hs] at this
      cases this
  · intro i x y hx hy
    rw [pl_get] at hy
    by_cases il : i < P.length
    · rw [if_pos il] at hy
      rw [List.getElem?_append_left (by rw [t.len]; exact il)] at hx
      by_cases ip : i = p
      · rw [if_pos ip] at hy
        cases hy
        subst ip
        rw [ha] at hx
        cases hx
        exact h3
      · rw [if_neg ip] at hy
        have hx' := t.row i x y hx hy
        refine h5 x _ (fun z => t.nl (z ▸ List.mem_of_getElem? hx)) (fun z => t.ns (z ▸ List.mem_of_getElem? hx)) (fun z => ?_) hx'
        subst z
        exact ip ((List.getElem?_inj (by rw [t.len]; exact il) t.nd).mp (hx.trans ha.symm))
    · rw [if_neg il] at hy
      rw [List.getElem?_append_right (by rw [t.len]; omega), t.len] at hx
      exact h4 _ x y hx hy
theorem kStr_inj {a b : Nat} (ha : a <= 4) (hb : b <= 4) (h : kStr a = kStr b) : a = b := by
  match a, b, ha, hb with
  | 0, 0, _, _ | 1, 1, _, _ | 2, 2, _, _ | 3, 3, _, _ | 4, 4, _, _ => rfl
  | 0, 1, _, _ | 0, 2, _, _ | 0, 3, _, _ | 0, 4, _, _ | 1, 0, _, _ | 1, 2, _, _ | 1, 3, _, _ | 1, 4, _, _ | 2, 0, _, _ | 2, 1, _, _ | 2, 3, _, _ | 2, 4, _, _ | 3, 0, _, _ | 3, 1, _, _ | 3, 2, _, _ | 3, 4, _, _ | 4, 0, _, _ | 4, 1, _, _ | 4, 2, _, _ | 4, 3, _, _ => exact absurd h (by decide +kernel)
  | a + 5, _, h, _ => omega
  | _, b + 5, _, h => omega
theorem kEq {a b : Nat} (ha : a <= 4) (hb : b <= 4) : decide (V.str (kStr a) = V.str (kStr b)) = decide (a = b) := by
  by_cases c : a = b
  · rw [decide_eq_true c, c, decide_eq_true rfl]
  · rw [decide_eq_false c, decide_eq_false fun z => c (kStr_inj ha hb (by injection z))]
structure PlAt (H : Hp) (v : V) (P : List Pe) : Prop where
  ex : ∃ (l : Addr) (as : List Addr), v = .ref l /\ H l = some (.lst (as.map V.ref)) /\ as.length = P.length /\ ∀ (i : Nat) (a : Addr) (e : Pe), as[i]? = some a -> P[i]? = some e -> H a = some (.lst (rowV e))
theorem PlAt.same {H H' : Hp} {v : V} {P : List Pe} (h : PlAt H v P) (s : Same H H') : PlAt H' v P := by
  obtain ⟨l, as, e, h1, h2, h3⟩ := h.ex
  exact ⟨l, as, e, s _ _ h1, h2, fun i a x p q => s _ _ (h3 i a x p q)⟩
def spPlan (K : W.Frag) : Sp := fun vs H Q _ => ∃ (a : Addr) (ns : List Int), vs = [.ref a] /\ SqL K H a (ns.map V.int) /\ ns.length <= 40 /\ ∀ v P S H', Same H H' -> PlAt H' v P -> PlanOk P S -> S.length <= 41 -> P.length <= 81 -> Q v H'
theorem kAt {c : Nat} (h : c < 4) : atI ([.str "curl", .str "bridge", .str "fork", .str "both"] : List V) (c : Int) = some (.str (kStr (c + 1))) := by
  match c, h with
  | 0, _ => exact atI_nat (j := 0) rfl
  | 1, _ => exact atI_nat (j := 1) rfl
  | 2, _ => exact atI_nat (j := 2) rfl
  | 3, _ => exact atI_nat (j := 3) rfl
  | c + 4, h => omega
section
variable {P : Program} {w : World} {K : W.Frag} {mg : Str -> Option Value} {base : Heap}
seal PSs PS PE PI PA PT PG
theorem scPlan : FnScope ["_law_cells", "_law_plan_here", "_law_still", "_law_cell", "_law_at_here", "_law_deep", "_law_kind"] ["_law_cells"] (defScope sPlan) := ⟨rfl, rfl, rfl, by decide +kernel, rfl, by decide +kernel, by decide +kernel⟩
theorem d_plan (T : Txt K mg) (S : Src K mg "_law_plan" sPlan ["_law_cells"]) : Def P w K mg base 1 "_law_plan" ["_law_cells"] (spPlan K) := by
  refine S.def scPlan (fun vs H Q E h => ?_) (fun f cdv A outer s H vs Q E hr h => ?_)
  · obtain ⟨_, _, rfl, _⟩ := h; rfl
  · obtain ⟨a, ns, rfl, hq, hn, q⟩ := h
    refine ⟨_, pss_cons (ps_set (i := 1) scPlan.nd rfl (Or.inl rfl) (pe_lst (pa_cons (pe_lst (pa_cons pe_str (pa_cons pe_int (pa_cons pe_int (pa_cons pe_int pa_nil))))) pa_nil)))
      (pss_cons (ps_set (i := 2) scPlan.nd rfl (Or.inl rfl) (pe_lst (pa_cons pe_int pa_nil)))
      (pss_cons (ps_for PassesOwn.never rfl (pi_seqK K .l (pv 0)) (pg_name (i := 3) scPlan.nd rfl (Or.inl rfl))
        (pss_cons (ps_set (i := 4) scPlan.nd rfl (Or.inl rfl) (pe_ix (ix_listK K) (pv 2) (pe_op op_mod (pe_op op_fdiv (pv 3) pe_int) (pe_callB (call_lenK K) (by rfl) T.len PySem.boot_len (pa_cons (pv 2) pa_nil))) (fun _ _ => rfl)))
        (pss_cons (ps_set (i := 5) scPlan.nd rfl (Or.inl rfl) (pe_op op_add (pe_ix (ix_listK K) (pe_ix (ix_listK K) (pv 1) (pv 4) (fun _ _ => rfl)) pe_int (fun _ _ => rfl)) pe_int))
        (pss_one (ps_if (pt_cmpR op_le (pv 5) pe_int (nomark _))
          (pss_cons (ps_expr (pe_bm PySem.F.plainAttrs_list PySem.F.slot_list_remove PySem.F.type_list_remove mt_remove (pv 2) (pa_cons (pv 4) pa_nil)))
          (pss_cons (ps_set (i := 6) scPlan.nd rfl (Or.inl rfl) (pe_ix (ix_listK K) (pe_lst (pa_cons pe_str (pa_cons pe_str (pa_cons pe_str (pa_cons pe_str pa_nil))))) (pe_op op_mod (pv 3) pe_int) (fun _ _ => rfl)))
          (pss_cons (ps_if (PW.pt (pw_and (pt_cmpR op_eq (pv 6) pe_str (nomark _)) (pw_and1 (pt_cmpR op_eq (pe_ix (ix_listK K) (pe_ix (ix_listK K) (pv 1) (pv 4) (fun _ _ => rfl)) pe_int (fun _ _ => rfl)) pe_int (nomark _))))) (pss_one (ps_set (i := 6) scPlan.nd rfl (Or.inl rfl) pe_str)) pss_nil)
          (pss_cons (ps_asg (pv 6) (pg_sub (pe_ix (ix_listK K) (pv 1) (pv 4) (fun _ _ => rfl)) pe_int set_list))
          (pss_cons (ps_asg (pe_callB (call_lenK K) (by rfl) T.len PySem.boot_len (pa_cons (pv 1) pa_nil)) (pg_sub (pe_ix (ix_listK K) (pv 1) (pv 4) (fun _ _ => rfl)) pe_int set_list))
          (pss_cons (ps_expr (pe_bm PySem.F.plainAttrs_list PySem.F.slot_list_append PySem.F.type_list_append mt_append (pv 1) (pa_cons (pe_lst (pa_cons pe_str (pa_cons pe_int (pa_cons (pv 5) (pa_cons (pe_op op_add (pe_ix (ix_listK K) (pe_ix (ix_listK K) (pv 1) (pv 4) (fun _ _ => rfl)) pe_int (fun _ _ => rfl)) (pe_callTy call_intB rfl T.int boot_int' (pa_cons (pe_cmpR op_eq (pv 6) pe_str (nomark _)) pa_nil))) pa_nil))))) pa_nil)))
          (pss_cons (ps_expr (pe_bm PySem.F.plainAttrs_list PySem.F.slot_list_append PySem.F.type_list_append mt_append (pv 2) (pa_cons (pe_op op_sub (pe_callB (call_lenK K) (by rfl) T.len PySem.boot_len (pa_cons (pv 1) pa_nil)) pe_int) pa_nil)))
          (pss_one (ps_if (pt_cmpR op_eq (pv 6) pe_str (nomark _))
            (pss_cons (ps_expr (pe_bm PySem.F.plainAttrs_list PySem.F.slot_list_append PySem.F.type_list_append mt_append (pv 1) (pa_cons (pe_lst (pa_cons pe_str (pa_cons pe_int (pa_cons (pv 5) (pa_cons (pe_ix (ix_listK K) (pe_ix (ix_listK K) (pv 1) (pv 4) (fun _ _ => rfl)) pe_int (fun _ _ => rfl)) pa_nil))))) pa_nil)))
            (pss_one (ps_expr (pe_bm PySem.F.plainAttrs_list PySem.F.slot_list_append PySem.F.type_list_append mt_append (pv 2) (pa_cons (pe_op op_sub (pe_callB (call_lenK K) (by rfl) T.len PySem.boot_len (pa_cons (pv 1) pa_nil)) pe_int) pa_nil))))) pss_nil))))))))) pss_nil)))))
      (pss_one (ps_ret (pv 1))))), ?_⟩
    refine ⟨by show 4 <= sizeLine; decide, fun r hr0 => ⟨by show 1 <= sizeLine; decide, fun l hl => ?_⟩⟩
    try dsimp only [List.set]
    refine ⟨by show 1 <= sizeLine; decide, fun st hst => ?_⟩
    try dsimp only [List.set]
    have t0 : PlS H (upd (upd (upd H r (.lst [.str "end", .int 0, .int 0, .int 0])) l (.lst [.ref r])) st (.lst [.int 0])) l st [r] [⟨0, 0, 0, 0⟩] [0] := by
      have s1 := Same.new (o := HO.lst [.str "end", .int 0, .int 0, .int 0]) hr0
      have s2 := Same.new (o := HO.lst [.ref r]) hl
      have s3 := Same.new (o := HO.lst [.int 0]) hst
      have lr : l ≠ r := fun z => by rw [z, upd_same] at hl; cases hl
      have sl : st ≠ l := fun z => by rw [z, upd_same] at hst; cases hst
      have sr : st ≠ r := fun z => by rw [z, upd_ne (Ne.symm lr), upd_same] at hst; cases hst
      refine ⟨s1.trans (s2.trans s3), s3 _ _ upd_same, upd_same, rfl, List.nodup_cons.mpr ⟨fun z => (nomatch z), .nil⟩, fun x hx => ?_, s1.free hl, (s1.trans s2).free hst, fun z => lr (List.mem_singleton.mp z), fun z => sr (List.mem_singleton.mp z), Ne.symm sl, ?_⟩
      · rw [List.mem_singleton.mp hx]; exact hr0
      · intro i x e hx he
        match i, hx, he with
        | 0, hx, he => cases hx; cases he; exact s3 _ _ (s2 _ _ upd_same)
        | i + 1, hx, _ => cases hx
    generalize upd (upd (upd H r (.lst [.str "end", .int 0, .int 0, .int 0])) l (.lst [.ref r])) st (.lst [.int 0]) = H3 at t0 ⊢
    refine ⟨_, rfl, a, rfl, ⟨_, t0.sm.seq hq⟩, for_seq (k := .l) (K := K) (a := a) (xs := ns.map V.int) (fun i σ H' => (∃ u3 u4 u5 u6, σ = [some (.ref a), some (.ref l), some (.ref st), u3, u4, u5, u6]) /\ ∃ as P S, PlS H H' l st as P S /\ PlanOk P S /\ S.length <= i + 1 /\ P.length <= 2 * i + 1) ⟨⟨_, _, _, _, rfl⟩, _, _, _, t0, plan0, Nat.le_refl _, Nat.le_refl _⟩ (fun i σ H' _ z => by obtain ⟨_, _, _, _, t, _⟩ := z; exact t.sm.seq hq) ?_ ?_⟩
    · rintro i x σ H4 hx ⟨⟨u3, u4, u5, u6, rfl⟩, as, P, S, t, ok, sl, pl⟩
      obtain ⟨c, hc, rfl⟩ := get_int' hx
      have il : i < ns.length := (List.getElem?_eq_some_iff.mp hc).1
      have s0 := ok.s0
      obtain ⟨j, ej, jl⟩ : ∃ j : Nat, c / 4 % (S.length : Int) = (j : Int) /\ j < S.length := ⟨(c / 4 % (S.length : Int)).toNat, by have := Int.emod_nonneg (c / 4) (show (S.length : Int) ≠ 0 by omega); omega, by have := Int.emod_nonneg (c / 4) (show (S.length : Int) ≠ 0 by omega); have := Int.emod_lt_of_pos (c / 4) (show 0 < (S.length : Int) by omega); omega⟩
      obtain ⟨c4, ec, cl⟩ : ∃ c4 : Nat, c % 4 = (c4 : Int) /\ c4 < 4 := ⟨(c % 4).toNat, by omega, by omega⟩
      obtain ⟨p, hj⟩ : ∃ p, S[j]? = some p := ⟨_, List.getElem?_eq_getElem jl⟩
      obtain ⟨e, he, ek⟩ := ok.mem p (List.mem_of_getElem? hj)
      have ppl := (List.getElem?_eq_some_iff.mp he).1
      obtain ⟨ra, hra⟩ : ∃ ra, as[p]? = some ra := ⟨_, List.getElem?_eq_getElem (by rw [t.len]; exact ppl)⟩
      have hrow := t.row p ra e hra he
      have apl : atI (as.map V.ref) (p : Int) = some (.ref ra) := atI_nat (by rw [List.getElem?_map, hra]; rfl)
      dsimp only [gName, List.set]
      refine seq_abs fun M hM => ?_
      refine ⟨_, rfl, _, rfl, _, _, rfl, rfl, ⟨by decide, by decide⟩, _, rfl, st, _, rfl, .inl (SqL.of t.hs), _, _, rfl, rfl, ?_, st, _, _, .int (p : Int), rfl, rfl, SqL.of t.hs, ?_, hM _ _ ?_⟩
      · show (0 : Int) < _
        rw [List.length_map, List.length_map]
        omega
      · show atI _ (c / 4 % ((((S.map fun (q : Nat) => (q : Int)).map V.int).length : Nat) : Int)) = _
        rw [List.length_map, List.length_map, ej]
        exact atI_nat (by rw [List.getElem?_map, List.getElem?_map, hj]; rfl)
      clear hM M
      try dsimp only [List.set]
      refine seq_abs fun M hM => ?_
      refine ⟨_, rfl, _, rfl, l, _, _, _, rfl, rfl, SqL.of t.hl, apl, ra, _, _, _, rfl, rfl, SqL.of hrow, atI_nat (j := 2) rfl, _, _, rfl, rfl, hM _ _ ?_⟩
      clear hM M
      try dsimp only [List.set]
      refine ⟨_, rfl, _, _, rfl, rfl, _, rfl, ite2 (fun dl => ?_) (fun _ => ⟨⟨_, _, _, _, rfl⟩, as, P, S, t, ok, by omega, by omega⟩)⟩
      have dl : e.d + 1 <= 28 := by
        have : (e.d : Int) + 1 <= 28 := of_decide_eq_true dl
        omega
      have lst : l ≠ st := t.ls
      have rl : ra ≠ l := fun z => t.nl (z ▸ List.mem_of_getElem? hra)
      have rs : ra ≠ st := fun z => t.ns (z ▸ List.mem_of_getElem? hra)
      refine seq_abs fun M hM => ?_
      refine ⟨_, rfl, .inl ⟨rfl, _, SqL.of t.hs⟩, _, rfl, st, _, (p : Int), j, rfl, rfl, t.hs, by rw [List.getElem?_map, hj]; rfl, fun m hm z => ?_, hM _ _ ?_⟩
      · rw [List.getElem?_map] at z
        cases em : S[m]? with
        | none => rw [em] at z; cases z
        | some y =>
          rw [em] at z
          have ey : (y : Int) = p := Option.some.inj z
          have := (List.getElem?_inj (show m < S.length by omega) ok.nd).mp (em.trans (by rw [show y = p by omega]; exact hj.symm))
          omega
      clear hM M
      try dsimp only [List.set]
      refine seq_abs fun M hM => ?_
      refine ⟨by show 4 <= sizeLine; decide, fun z hz => ⟨_, rfl, _, _, rfl, rfl, (by show (0 : Int) < 4; decide), z, _, _, .str (kStr (c4 + 1)), rfl, rfl, SqL.of upd_same, by rw [show c % 4 = (c4 : Int) from ec]; exact kAt cl, hM _ _ ?_⟩⟩
      clear hM M
      try dsimp only [List.set]
      have zst : z ≠ st := fun w => by rw [w, upd_same] at hz; cases hz
      have k6 : ∀ b o, b ≠ st -> H4 b = some o -> (upd (upd H4 st (.lst (((S.map fun (q : Nat) => (q : Int)).eraseIdx j).map V.int))) z (.lst [.str "curl", .str "bridge", .str "fork", .str "both"])) b = some o := fun b o hb ho => by
        have hb2 : (upd H4 st (.lst (((S.map fun (q : Nat) => (q : Int)).eraseIdx j).map V.int))) b = some o := by rw [upd_ne hb]; exact ho
        rw [upd_ne (ne_of_none hb2 hz)]
        exact hb2
      have hs6 : (upd (upd H4 st (.lst (((S.map fun (q : Nat) => (q : Int)).eraseIdx j).map V.int))) z (.lst [.str "curl", .str "bridge", .str "fork", .str "both"])) st = some (.lst (((S.eraseIdx j).map fun (q : Nat) => (q : Int)).map V.int)) := by
        rw [upd_ne (Ne.symm zst), upd_same, map_erase]
      generalize upd (upd H4 st (.lst (((S.map fun (q : Nat) => (q : Int)).eraseIdx j).map V.int))) z (.lst [.str "curl", .str "bridge", .str "fork", .str "both"]) = H6 at k6 hs6 ⊢
      have hl6 := k6 l _ lst t.hl
      have hr6 := k6 ra _ rs hrow
      refine seq_abs fun M hM => ?_
      have go : M [some (.ref a), some (.ref l), some (.ref st), some (.int c), some (.int (p : Int)), some (.int ((e.d : Int) + 1)), some (.str (kStr (kOf c4 e.t)))] H6 := hM _ _ (by
        clear hM M
        have k4 : kOf c4 e.t <= 4 := by unfold kOf; split <;> omega
        generalize hk : kOf c4 e.t = k at k4
        refine seq_abs fun M hM => ?_
        refine ⟨_, rfl, _, rfl, _, rfl, l, _, _, _, rfl, rfl, SqL.of hl6, apl, ra, _, 0, 0, rfl, rfl, hr6, rfl, hM _ _ ?_⟩
        clear hM M
        have hl7 : (upd H6 ra (.lst ((rowV e).set 0 (.str (kStr k))))) l = some (.lst (as.map V.ref)) := by rw [upd_ne (Ne.symm rl)]; exact hl6
        refine seq_abs fun M hM => ?_
        refine ⟨_, rfl, l, _, rfl, .inl (SqL.of hl7), _, rfl, _, rfl, l, _, _, _, rfl, rfl, SqL.of hl7, apl, ra, _, 1, 1, rfl, rfl, upd_same, rfl, hM _ _ ?_⟩
        clear hM M
        rw [upd_upd, List.length_map, t.len]
        have k8 : ∀ b o, b ≠ ra -> H6 b = some o -> (upd H6 ra (.lst (((rowV e).set 0 (.str (kStr k))).set 1 (.int (P.length : Int))))) b = some o := fun b o hb ho => by rw [upd_ne hb]; exact ho
        have hr8 : (upd H6 ra (.lst (((rowV e).set 0 (.str (kStr k))).set 1 (.int (P.length : Int))))) ra = some (.lst (rowV ⟨k, P.length, e.d, e.t⟩)) := upd_same
        generalize upd H6 ra (.lst (((rowV e).set 0 (.str (kStr k))).set 1 (.int (P.length : Int)))) = H8 at k8 hr8 ⊢
        have hl8 := k8 l _ (Ne.symm rl) hl6
        have hs8 := k8 st _ (Ne.symm rs) hs6
        have kb : decide (V.str (kStr k) = V.str "both") = decide (k = 4) := kEq (b := 4) k4 (by omega)
        have kf : decide (V.str (kStr k) = V.str "fork") = decide (k = 3) := kEq (b := 3) k4 (by omega)
        refine seq_abs fun M hM => ?_
        refine ⟨_, rfl, .inl ⟨rfl, _, SqL.of hl8⟩, _, rfl, _, rfl, _, rfl, l, _, _, _, rfl, rfl, SqL.of hl8, apl, ra, _, _, _, rfl, rfl, SqL.of hr8, atI_nat (j := 3) rfl, _, rfl, rfl, _, rfl, _, _, rfl, rfl, by show 4 <= sizeLine; decide, fun c1 hc1 => ?_⟩
        have n1 : H4 c1 = none := by
          cases w : H4 c1 with
          | none => rfl
          | some o =>
            have cs : c1 ≠ st := fun z => by rw [z, hs8] at hc1; cases hc1
            have cr : c1 ≠ ra := fun z => by rw [z, hr8] at hc1; cases hc1
            rw [k8 _ _ cr (k6 _ _ cs w)] at hc1
            cases hc1
        have s9 := Same.new (o := HO.lst [.str "end", .int 0, .int ((e.d : Int) + 1), .int ((e.t : Int) + if decide (V.str (kStr k) = V.str "both") = true then 1 else 0)]) hc1
        refine ⟨l, _, _, rfl, rfl, s9 _ _ hl8, ?_, hM _ _ ?_⟩
        · rw [List.length_map, t.len]
          exact natB (by omega)
        clear hM M
        have c1l : c1 ≠ l := fun z => by rw [z, hl8] at hc1; cases hc1
        have c1s : c1 ≠ st := fun z => by rw [z, hs8] at hc1; cases hc1
        have c1r : c1 ≠ ra := fun z => by rw [z, hr8] at hc1; cases hc1
        have v1 : ((e.t : Int) + if decide (V.str (kStr k) = V.str "both") = true then 1 else 0) = ((e.t + (if k = 4 then 1 else 0) : Nat) : Int) := by
          rw [kb]
          by_cases c4' : k = 4
          · rw [decide_eq_true c4', if_pos rfl, if_pos c4']; omega
          · rw [decide_eq_false c4', if_neg Bool.false_ne_true, if_neg c4']; omega
        rw [v1] at s9
        have hv : ∀ (F : Hp -> Prop), F (upd (upd H8 c1 (.lst [.str "end", .int 0, .int ((e.d : Int) + 1), .int ((e.t + (if k = 4 then 1 else 0) : Nat) : Int)])) l (.lst (as.map V.ref ++ [.ref c1]))) -> F (upd (upd H8 c1 (.lst [.str "end", .int 0, .int ((e.d : Int) + 1), .int ((e.t : Int) + if decide (V.str (kStr k) = V.str "both") = true then 1 else 0)])) l (.lst (as.map V.ref ++ [.ref c1]))) := fun F h => by rw [v1]; exact h
        refine hv _ ?_
        have k10 : ∀ b o, b ≠ l -> H8 b = some o -> (upd (upd H8 c1 (.lst [.str "end", .int 0, .int ((e.d : Int) + 1), .int ((e.t + (if k = 4 then 1 else 0) : Nat) : Int)])) l (.lst (as.map V.ref ++ [.ref c1]))) b = some o := fun b o hb ho => by rw [upd_ne hb]; exact s9 _ _ ho
        have hl10 : (upd (upd H8 c1 (.lst [.str "end", .int 0, .int ((e.d : Int) + 1), .int ((e.t + (if k = 4 then 1 else 0) : Nat) : Int)])) l (.lst (as.map V.ref ++ [.ref c1]))) l = some (.lst ((as ++ [c1]).map V.ref)) := by rw [upd_same, List.map_append]; rfl
        have hc10 : (upd (upd H8 c1 (.lst [.str "end", .int 0, .int ((e.d : Int) + 1), .int ((e.t + (if k = 4 then 1 else 0) : Nat) : Int)])) l (.lst (as.map V.ref ++ [.ref c1]))) c1 = some (.lst (rowV ⟨0, 0, e.d + 1, e.t + (if k = 4 then 1 else 0)⟩)) := by rw [upd_ne c1l, upd_same]; rfl
        generalize upd (upd H8 c1 (.lst [.str "end", .int 0, .int ((e.d : Int) + 1), .int ((e.t + (if k = 4 then 1 else 0) : Nat) : Int)])) l (.lst (as.map V.ref ++ [.ref c1])) = H10 at k10 hl10 hc10 ⊢
        have hs10 := k10 st _ (Ne.symm lst) hs8
        have hr10 := k10 ra _ rl hr8
        refine seq_abs fun M hM => ?_
        refine ⟨_, rfl, .inl ⟨rfl, _, SqL.of hs10⟩, _, rfl, l, _, rfl, .inl (SqL.of hl10), _, _, rfl, rfl, st, _, _, rfl, rfl, hs10, ?_, hM _ _ ?_⟩
        · have := len_erase S j
          rw [List.length_map, List.length_map]
          exact natB (by omega)
        clear hM M
        have ln : ((((as ++ [c1]).map V.ref).length : Nat) : Int) - 1 = (P.length : Int) := by rw [List.length_map, List.length_append, t.len]; show ((P.length + 1 : Nat) : Int) - 1 = _; omega
        have hw : ∀ (F : Hp -> Prop), F (upd H10 st (.lst (((S.eraseIdx j).map fun (q : Nat) => (q : Int)).map V.int ++ [.int (P.length : Int)]))) -> F (upd H10 st (.lst (((S.eraseIdx j).map fun (q : Nat) => (q : Int)).map V.int ++ [.int (((((as ++ [c1]).map V.ref).length : Nat) : Int) - 1)]))) := fun F h => by rw [ln]; exact h
        refine hw _ ?_
        have k11 : ∀ b o, b ≠ st -> H10 b = some o -> (upd H10 st (.lst (((S.eraseIdx j).map fun (q : Nat) => (q : Int)).map V.int ++ [.int (P.length : Int)]))) b = some o := fun b o hb ho => by rw [upd_ne hb]; exact ho
        have hs11 : (upd H10 st (.lst (((S.eraseIdx j).map fun (q : Nat) => (q : Int)).map V.int ++ [.int (P.length : Int)]))) st = some (.lst (((S.eraseIdx j ++ [P.length]).map fun (q : Nat) => (q : Int)).map V.int)) := by rw [upd_same, List.map_append, List.map_append]; rfl
        generalize upd H10 st (.lst (((S.eraseIdx j).map fun (q : Nat) => (q : Int)).map V.int ++ [.int (P.length : Int)])) = H11 at k11 hs11 ⊢
        have hl11 := k11 l _ lst hl10
        have hr11 := k11 ra _ rs hr10
        have hc11 := k11 c1 _ c1s hc10
        have kk : ∀ b o, b ≠ l -> b ≠ st -> b ≠ ra -> H4 b = some o -> H11 b = some o := fun b o h1 h2 h3 ho => k11 _ _ h2 (k10 _ _ h1 (k8 _ _ h3 (k6 _ _ h2 ho)))
        have sle : (S.eraseIdx j).length = S.length - 1 := List.length_eraseIdx_of_lt jl
        have okN : PlanOk (plP P p k e) (plS P S j k) := by rw [<- hk]; exact ok.step hj he cl dl
        refine ⟨_, rfl, rfl, _, rfl, ?_⟩
        rw [kf]
        by_cases c3 : k = 3
        · rw [decide_eq_true c3]
          refine iteT ?_
          have apl2 : atI ((as ++ [c1]).map V.ref) (p : Int) = some (.ref ra) := atI_nat (by rw [List.getElem?_map, List.getElem?_append_left (List.getElem?_eq_some_iff.mp hra).1, hra]; rfl)
          refine seq_abs fun M hM => ?_
          refine ⟨_, rfl, .inl ⟨rfl, _, SqL.of hl11⟩, _, rfl, _, rfl, _, rfl, l, _, _, _, rfl, rfl, SqL.of hl11, apl2, ra, _, _, _, rfl, rfl, SqL.of hr11, atI_nat (j := 3) rfl, by show 4 <= sizeLine; decide, fun c2 hc2 => ?_⟩
          have n2 : H4 c2 = none := by
            cases w : H4 c2 with
            | none => rfl
            | some o =>
              have g1 : c2 ≠ l := fun z => by rw [z, hl11] at hc2; cases hc2
              have g2 : c2 ≠ st := fun z => by rw [z, hs11] at hc2; cases hc2
              have g3 : c2 ≠ ra := fun z => by rw [z, hr11] at hc2; cases hc2
              rw [kk _ _ g1 g2 g3 w] at hc2
              cases hc2
          have s12 := Same.new (o := HO.lst [.str "end", .int 0, .int ((e.d : Int) + 1), .int (e.t : Int)]) hc2
          refine ⟨l, _, _, rfl, rfl, s12 _ _ hl11, ?_, hM _ _ ?_⟩
          · rw [List.length_map, List.length_append, t.len]
            exact natB (by show _ + 1 < _; omega)
          clear hM M
          have c2l : c2 ≠ l := fun z => by rw [z, hl11] at hc2; cases hc2
          have c2s : c2 ≠ st := fun z => by rw [z, hs11] at hc2; cases hc2
          have c2c : c2 ≠ c1 := fun z => by rw [z, hc11] at hc2; cases hc2
          have k13 : ∀ b o, b ≠ l -> H11 b = some o -> (upd (upd H11 c2 (.lst [.str "end", .int 0, .int ((e.d : Int) + 1), .int (e.t : Int)])) l (.lst ((as ++ [c1]).map V.ref ++ [.ref c2]))) b = some o := fun b o hb ho => by rw [upd_ne hb]; exact s12 _ _ ho
          have hl13 : (upd (upd H11 c2 (.lst [.str "end", .int 0, .int ((e.d : Int) + 1), .int (e.t : Int)])) l (.lst ((as ++ [c1]).map V.ref ++ [.ref c2]))) l = some (.lst ((as ++ [c1, c2]).map V.ref)) := by
            rw [upd_same, show as ++ [c1, c2] = as ++ [c1] ++ [c2] by rw [List.append_assoc]; rfl, List.map_append (l₁ := as ++ [c1])]
            rfl
          have hc13 : (upd (upd H11 c2 (.lst [.str "end", .int 0, .int ((e.d : Int) + 1), .int (e.t : Int)])) l (.lst ((as ++ [c1]).map V.ref ++ [.ref c2]))) c2 = some (.lst (rowV ⟨0, 0, e.d + 1, e.t⟩)) := by rw [upd_ne c2l, upd_same]; rfl
          generalize upd (upd H11 c2 (.lst [.str "end", .int 0, .int ((e.d : Int) + 1), .int (e.t : Int)])) l (.lst ((as ++ [c1]).map V.ref ++ [.ref c2])) = H13 at k13 hl13 hc13 ⊢
          have hs13 := k13 st _ (Ne.symm lst) hs11
          have hr13 := k13 ra _ rl hr11
          have hd13 := k13 c1 _ c1l hc11
          refine ⟨_, rfl, .inl ⟨rfl, _, SqL.of hs13⟩, _, rfl, l, _, rfl, .inl (SqL.of hl13), _, _, rfl, rfl, st, _, _, rfl, rfl, hs13, ?_, ?_⟩
          · rw [List.length_map, List.length_map, List.length_append]
            exact natB (by show _ + 1 < _; omega)
          have ln2 : ((((as ++ [c1, c2]).map V.ref).length : Nat) : Int) - 1 = ((P.length + 1 : Nat) : Int) := by rw [List.length_map, List.length_append, t.len]; show ((P.length + 2 : Nat) : Int) - 1 = _; omega
          have hw2 : ∀ (F : Hp -> Prop), F (upd H13 st (.lst (((S.eraseIdx j ++ [P.length]).map fun (q : Nat) => (q : Int)).map V.int ++ [.int ((P.length + 1 : Nat) : Int)]))) -> F (upd H13 st (.lst (((S.eraseIdx j ++ [P.length]).map fun (q : Nat) => (q : Int)).map V.int ++ [.int (((((as ++ [c1, c2]).map V.ref).length : Nat) : Int) - 1)]))) := fun F h => by rw [ln2]; exact h
          refine hw2 _ ?_
          have pS : plS P S j k = S.eraseIdx j ++ [P.length] ++ [P.length + 1] := by unfold plS; rw [if_pos c3, List.append_assoc]; rfl
          have pN : news k e = [⟨0, 0, e.d + 1, e.t + (if k = 4 then 1 else 0)⟩, ⟨0, 0, e.d + 1, e.t⟩] := by unfold news; rw [if_pos c3]
          refine ⟨⟨_, _, _, _, rfl⟩, as ++ [c1, c2], plP P p k e, plS P S j k, t.grow (cs := [c1, c2]) hra he (by rw [pN]; rfl) (List.nodup_cons.mpr ⟨fun z => c2c (List.mem_singleton.mp z).symm, List.nodup_cons.mpr ⟨fun z => (nomatch z), .nil⟩⟩) (fun x hx => ?_) ?_ ?_ ?_ (fun i x y hx hy => ?_) (fun b o h1 h2 h3 ho => ?_), okN, ?_, ?_⟩
          · rcases List.mem_cons.mp hx with rfl | hx
            · exact n1
            · rw [List.mem_singleton.mp hx]; exact n2
          · rw [upd_ne lst]; exact hl13
          · rw [upd_same, pS, List.map_append (l₁ := S.eraseIdx j ++ [P.length]), List.map_append (l₁ := (S.eraseIdx j ++ [P.length]).map _)]
            rfl
          · rw [upd_ne rs]; exact hr13
          · rw [pN] at hy
            match i, hx, hy with
            | 0, hx, hy => cases hx; cases hy; rw [upd_ne c1s]; exact hd13
            | 1, hx, hy => cases hx; cases hy; rw [upd_ne c2s]; exact hc13
            | i + 2, hx, _ => cases hx
          · rw [upd_ne h2]; exact k13 _ _ h1 (kk _ _ h1 h2 h3 ho)
          · rw [pS, List.length_append, List.length_append]
            show _ + 1 + 1 <= _
            omega
          · unfold plP
            rw [pN, List.length_append, List.length_set]
            show _ + 2 <= _
            omega
        · rw [decide_eq_false c3]
          refine iteF ?_
          have pS : plS P S j k = S.eraseIdx j ++ [P.length] := by unfold plS; rw [if_neg c3]
          have pN : news k e = [⟨0, 0, e.d + 1, e.t + (if k = 4 then 1 else 0)⟩] := by unfold news; rw [if_neg c3]
          refine ⟨⟨_, _, _, _, rfl⟩, as ++ [c1], plP P p k e, plS P S j k, t.grow (cs := [c1]) hra he (by rw [pN]; rfl) (List.nodup_cons.mpr ⟨fun z => (nomatch z), .nil⟩) (fun x hx => by rw [List.mem_singleton.mp hx]; exact n1) hl11 (by rw [pS]; exact hs11) hr11 (fun i x y hx hy => ?_) kk, okN, ?_, ?_⟩
          · rw [pN] at hy
            match i, hx, hy with
            | 0, hx, hy => cases hx; cases hy; exact hc11
            | i + 1, hx, _ => cases hx
          · rw [pS, List.length_append]
            show _ + 1 <= _
            omega
          · unfold plP
            rw [pN, List.length_append, List.length_set]
            show _ + 1 <= _
            omega)
      have kb : decide (V.str (kStr (c4 + 1)) = V.str "both") = decide (c4 + 1 = 4) := kEq (b := 4) (by omega) (by omega)
      refine ⟨_, rfl, rfl, _, rfl, ?_⟩
      rw [kb]
      by_cases b3 : c4 = 3
      · rw [decide_eq_true (show c4 + 1 = 4 by omega)]
        refine iteT ⟨_, rfl, _, rfl, l, _, _, _, rfl, rfl, SqL.of hl6, apl, ra, _, _, _, rfl, rfl, SqL.of hr6, atI_nat (j := 3) rfl, rfl, _, rfl, ?_⟩
        by_cases t2 : e.t = 2
        · rw [decide_eq_true (show V.int (e.t : Int) = V.int 2 by rw [t2]; rfl)]
          refine iteT ?_
          have : kOf c4 e.t = 3 := by unfold kOf; rw [if_pos ⟨b3, t2⟩]
          rw [this] at go
          exact go
        · rw [decide_eq_false (show ¬ V.int (e.t : Int) = V.int 2 from fun z => t2 (by injection z; omega))]
          refine iteF ?_
          have : kOf c4 e.t = c4 + 1 := by unfold kOf; rw [if_neg fun z => t2 z.2]
          rw [this] at go
          exact go
      · rw [decide_eq_false (show ¬ c4 + 1 = 4 by omega)]
        refine iteF (iteF ?_)
        have : kOf c4 e.t = c4 + 1 := by unfold kOf; rw [if_neg fun z => b3 z.1]
        rw [this] at go
        exact go
    · rintro σ H4 ⟨⟨u3, u4, u5, u6, rfl⟩, as, P, S, t, ok, sl, pl⟩
      rw [List.length_map] at sl pl
      exact ⟨_, rfl, q _ P S _ t.sm ⟨l, as, rfl, t.hl, t.len, t.row⟩ ok (by omega) (by omega)⟩
end
theorem made_same {H : Hp} {x dx : Addr} {o1 o2 o3 : HO} (nx : H x = none) (nd : H dx = none) : Same H (upd (upd (upd H dx o1) x o2) x o3) := fun b o e => by
  rw [upd_ne (ne_of_none e nx), upd_ne (ne_of_none e nx), upd_ne (ne_of_none e nd)]
  exact e
theorem at_end {rs : List V} {v : V} (h : 0 < rs.length) (e : rs[rs.length - 1]? = some v) : atI rs (-1) = some v := by
  unfold atI ixN
  rw [if_neg (by decide), if_pos (by omega)]
  show rs[((-1 : Int) + (rs.length : Int)).toNat]? = _
  rw [show ((-1 : Int) + (rs.length : Int)).toNat = rs.length - 1 by omega]
  exact e
theorem ixN_nat {n q : Nat} (h : q < n) : ixN n (q : Int) = some q := by
  unfold ixN
  rw [if_pos (by omega), if_pos (by omega)]
  rfl
theorem StepAt.put {CE CC CB CF : Addr} {H : Hp} {l : Addr} {xs ys : List V} (hl : H l = some (.lst xs)) : ∀ {S : Stp} {v : V}, StepAt CE CC CB CF H S v -> StepAt CE CC CB CF (upd H l (.lst ys)) S v
  | .fin, _, ⟨a, dx, e, h⟩ => ⟨a, dx, e, by rw [upd_ne (ne_of h hl (fun z => nomatch z))]; exact h⟩
  | .curl _ _, _, ⟨a, dx, r, e, h, z⟩ => ⟨a, dx, r, e, by rw [upd_ne (ne_of h hl (fun z => nomatch z))]; exact h, StepAt.put hl z⟩
  | .bri _ _, _, ⟨a, dx, r, e, h, z⟩ => ⟨a, dx, r, e, by rw [upd_ne (ne_of h hl (fun z => nomatch z))]; exact h, StepAt.put hl z⟩
  | .frk _ _ _, _, ⟨a, dx, r, u, e, h, z, y⟩ => ⟨a, dx, r, u, e, by rw [upd_ne (ne_of h hl (fun z => nomatch z))]; exact h, StepAt.put hl z, StepAt.put hl y⟩
structure MdS (CE CC CB CF : Addr) (H0 H : Hp) (l : Addr) (ws : List V) (T : Nat -> Stp) (n m : Nat) : Prop where
  sm : Same H0 H
  fl : H0 l = none
  hl : H l = some (.lst ws)
  len : ws.length = n
  st : ∀ (i : Nat) (w : V), ws[i]? = some w -> StepAt CE CC CB CF H (if m <= i then T i else .fin) w
theorem MdS.put {CE CC CB CF : Addr} {H0 H H2 : Hp} {l : Addr} {ws : List V} {T : Nat -> Stp} {n q : Nat} (t : MdS CE CC CB CF H0 H l ws T n (q + 1)) (hq : q < n) {v : V} (s : Same H H2) (hv : StepAt CE CC CB CF H2 (T q) v) : MdS CE CC CB CF H0 (upd H2 l (.lst (ws.set q v))) l (ws.set q v) T n q := by
  have hl2 := s _ _ t.hl
  refine ⟨fun b o hb => ?_, t.fl, upd_same, by rw [List.length_set]; exact t.len, fun i w hw => ?_⟩
  · have : b ≠ l := fun z => by rw [z, t.fl] at hb; cases hb
    rw [upd_ne this]
    exact s _ _ (t.sm _ _ hb)
  · rw [List.getElem?_set] at hw
    split at hw
    · next c =>
      subst c
      split at hw
      · cases hw
        rw [if_pos (Nat.le_refl _)]
        exact hv.put hl2
      · cases hw
    · next c =>
      have := (t.st i w hw).same s
      have e : (if q <= i then T i else Stp.fin) = if q + 1 <= i then T i else Stp.fin := by
        by_cases z : q + 1 <= i
        · rw [if_pos z, if_pos (by omega)]
        · rw [if_neg z, if_neg (by omega)]
      rw [e]
      exact this.put hl2
theorem MdS.skip {CE CC CB CF : Addr} {H0 H : Hp} {l : Addr} {ws : List V} {T : Nat -> Stp} {n q : Nat} (t : MdS CE CC CB CF H0 H l ws T n (q + 1)) (hT : T q = .fin) : MdS CE CC CB CF H0 H l ws T n q := by
  refine ⟨t.sm, t.fl, t.hl, t.len, fun i w hw => ?_⟩
  have := t.st i w hw
  by_cases z : q + 1 <= i
  · rw [if_pos z] at this
    rw [if_pos (by omega)]
    exact this
  · rw [if_neg z] at this
    by_cases y : q <= i
    · rw [if_pos y, show i = q by omega, hT]
      exact this
    · rw [if_neg y]
      exact this
def MdAt (CE CC CB CF : Addr) (H : Hp) (v : V) (n : Nat) (T : Nat -> Stp) : Prop := ∃ (l : Addr) (ws : List V), v = .ref l /\ H l = some (.lst ws) /\ ws.length = n /\ ∀ (i : Nat) (w : V), ws[i]? = some w -> StepAt CE CC CB CF H (T i) w
def spMadeS (CE CC CB CF : Addr) : Sp := fun vs H Q _ => ∃ (pv : V) (P : List Pe) (S : List Nat) (first : Int) (al : Bool), vs = [pv, .int first, .bl al] /\ PlAt H pv P /\ PlanOk P S /\ P.length <= 81 /\ ∀ v H', Same H H' -> MdAt CE CC CB CF H' v P.length (trT P first) -> Q v H'
section
variable {P : Program} {w : World} {K : W.Frag} {mg : Str -> Option Value} {base : Heap} {CE CC CB CF : Addr}
seal PSs PS PE PI PA PT PG
theorem scMadeS : FnScope ["_law_plan_here", "_law_first", "_law_alike", "_law_made_here", "_law_at_here", "_law_kind", "_law_below", "_law_deep", "_law_twice"] ["_law_plan_here", "_law_first", "_law_alike"] (defScope sMadeS) := ⟨rfl, rfl, rfl, by decide +kernel, rfl, by decide +kernel, by decide +kernel⟩
theorem ndPl : (["_law_place"] : List Str).Nodup := by decide +kernel
theorem d_made (X : Txt K mg) (hrev : mg "reversed" = none) (T : StK K mg CE CC CB CF) (S : Src K mg "_law_made" sMadeS ["_law_plan_here", "_law_first", "_law_alike"]) : Def P w K mg base 3 "_law_made" ["_law_plan_here", "_law_first", "_law_alike"] (spMadeS CE CC CB CF) := by
  obtain ⟨fc, dc, MC, FC, bC⟩ := T.iC
  obtain ⟨fb, db, MB, FB, bB⟩ := T.iB
  obtain ⟨ff, df, MF, FF, bF⟩ := T.iF
  have GC : FnOk P w K mg base CX0 1 fc dc ["self", "tie", "rest"] (spInit2 CC) := ok_CI FC T.clC T.c1 T.c2
  have GB : FnOk P w K mg base CX0 1 fb db ["self", "tie", "rest"] (spInit2 CB) := ok_BI FB T.clB T.b1 T.b2
  have GF : FnOk P w K mg base CX0 1 ff df ["self", "tie", "without", "within"] (spInit3 CF) := ok_FI FF T.clF T.x1 T.x2 T.x3
  refine S.def scMadeS (fun vs H Q E h => ?_) (fun f cdv A outer s H vs Q E hr h => ?_)
  · obtain ⟨_, _, _, _, _, rfl, _⟩ := h; rfl
  · obtain ⟨pv0, P, S, first, al, rfl, pa, ok, p81, q⟩ := h
    have hr2 : Room 2 _ := hr.mono (by decide)
    refine ⟨_, pss_cons (ps_setComp (i := 3) scMadeS.nd rfl (Or.inl rfl) (N' := ["_law_place"]) (fr := [none]) (compOk_of (by rfl)) rfl (pi_seqK K .l (pv 0)) (fun _ _ _ _ => pg_name (i := 0) ndPl rfl (Or.inl rfl) (Or.inr rfl)) (fun _ _ _ _ => pifs_nil) (fun _ _ _ _ => pe_makeE T.mE rfl T.gE))
      (pss_cons (ps_for PassesOwn.never rfl (pi_revrange rfl hrev rfl X.range (pa_cons (pe_callB (call_lenK K) (by rfl) X.len PySem.boot_len (pa_cons (pv 0) pa_nil)) pa_nil)) (pg_name (i := 4) scMadeS.nd rfl (Or.inl rfl))
        (pss_cons (ps_asg (pe_ix (ix_listK K) (pv 0) (pv 4) (fun _ _ => rfl)) (pg_tupL rfl (pgs_cons (pg_name (i := 5) scMadeS.nd rfl (Or.inl rfl)) (pgs_cons (pg_name (i := 6) scMadeS.nd rfl (Or.inl rfl)) (pgs_cons (pg_name (i := 7) scMadeS.nd rfl (Or.inl rfl)) (pgs_cons (pg_name (i := 8) scMadeS.nd rfl (Or.inl rfl)) pgs_nil))))))
        (pss_one (ps_if (PW.pt (pw_and (pt_cmpR op_eq (pv 5) pe_str (nomark _)) (pw_and1 (pt_val (pv 2))))) (pss_one (ps_asg (pe_ix (ix_listK K) (pv 3) (pe_un un_neg pe_int) (fun _ _ => rfl)) (pg_sub (pv 3) (pv 4) set_list)))
        (pss_one (ps_if (pt_cmpR op_eq (pv 5) pe_str (nomark _)) (pss_one (ps_asg (pe_make MC GC hr2 rfl T.gC bC .nil pass0 (pa_cons (pe_op op_add (pv 1) (pv 4)) (pa_cons (pe_ix (ix_listK K) (pv 3) (pv 6) (fun _ _ => rfl)) pa_nil))) (pg_sub (pv 3) (pv 4) set_list)))
        (pss_one (ps_if (pt_cmpR op_eq (pv 5) pe_str (nomark _)) (pss_one (ps_asg (pe_make MB GB hr2 rfl T.gB bB .nil pass0 (pa_cons (pe_op op_add (pv 1) (pv 4)) (pa_cons (pe_ix (ix_listK K) (pv 3) (pv 6) (fun _ _ => rfl)) pa_nil))) (pg_sub (pv 3) (pv 4) set_list)))
        (pss_one (ps_if (pt_cmpR op_eq (pv 5) pe_str (nomark _)) (pss_one (ps_asg (pe_make MF GF hr2 rfl T.gF bF .nil pass0 (pa_cons (pe_op op_add (pv 1) (pv 4)) (pa_cons (pe_ix (ix_listK K) (pv 3) (pv 6) (fun _ _ => rfl)) (pa_cons (pe_ix (ix_listK K) (pv 3) (pe_op op_add (pv 6) pe_int) (fun _ _ => rfl)) pa_nil)))) (pg_sub (pv 3) (pv 4) set_list)))
        (pss_one (ps_if (pt_cmpR op_eq (pv 5) pe_str (nomark _)) (pss_one (ps_asg (pe_make MF GF hr2 rfl T.gF bF .nil pass0 (pa_cons (pe_op op_add (pv 1) (pv 4)) (pa_cons (pe_ix (ix_listK K) (pv 3) (pv 6) (fun _ _ => rfl)) (pa_cons (pe_ix (ix_listK K) (pv 3) (pv 6) (fun _ _ => rfl)) pa_nil)))) (pg_sub (pv 3) (pv 4) set_list))) pss_nil))))))))))))
      (pss_one (ps_ret (pv 3)))), ?_⟩
    obtain ⟨pl, as, rfl, hpl, asl, hrows⟩ := pa.ex
    refine seq_abs fun M hM => ?_
    refine ⟨_, rfl, pl, rfl, ⟨_, SqL.of hpl⟩, comp_seq (k := .l) (K := K) (a := pl) (xs := as.map V.ref) (fun σ => ∃ u, σ = [u]) (fun i ys H' => Same H H' /\ ys.length = i /\ ∀ w ∈ ys, StepAt CE CC CB CF H' .fin w) ⟨_, rfl⟩ ⟨Same.refl _, rfl, fun _ z => (nomatch z)⟩ (natB (by rw [List.length_map]; omega)) (fun i ys H' _ z => SqL.of (z.1 _ _ hpl)) ?_ ?_⟩
    · rintro i x ys σ H2 Z hx ⟨u, rfl⟩ ⟨sm, yl, yw⟩ hZ
      dsimp only [gName, List.set]
      refine yesT ?_
      intro x dx nx ndx nex
      have s2 : Same H2 (upd (upd H2 dx (.own x)) x (.ins CE dx [])) := fun b o e => by
        rw [upd_ne (ne_of_none e nx), upd_ne (ne_of_none e ndx)]
        exact e
      refine hZ _ _ _ ⟨_, rfl⟩ ⟨sm.trans s2, by rw [List.length_append, yl]; rfl, fun w hw => ?_⟩ (by simp)
      rcases List.mem_append.mp hw with z | z
      · exact (yw w z).same s2
      · rw [List.mem_singleton.mp z]
        exact ⟨x, dx, rfl, upd_same⟩
    rintro ys H2 ⟨sm, yl, yw⟩ l hl
    rw [List.length_map, asl] at yl
    have s3 := Same.new (o := HO.lst ys) hl
    have t0 : MdS CE CC CB CF H (upd H2 l (.lst ys)) l ys (trT P first) P.length P.length := ⟨sm.trans s3, sm.free hl, upd_same, yl, fun i w hw => by
      have il := (List.getElem?_eq_some_iff.mp hw).1
      rw [if_neg (by omega)]
      exact (yw w (List.mem_of_getElem? hw)).same s3⟩
    generalize upd H2 l (.lst ys) = H3 at t0 ⊢
    refine hM _ _ ?_
    clear hM M
    try dsimp only [List.set]
    refine seq_abs fun M hM => ?_
    have fin : M [some (.ref pl), some (.int first), some (.bl al), some (.ref l), none, none, none, none, none] H3 -> True := fun _ => trivial
    clear fin
    refine ⟨_, rfl, pl, _, rfl, .inl (SqL.of (t0.sm _ _ hpl)), P.length, by rw [List.length_map, asl], by omega, ?_⟩
    refine for_rangeC (fun i σ H' => (∃ u4 u5 u6 u7 u8, σ = [some (.ref pl), some (.int first), some (.bl al), some (.ref l), u4, u5, u6, u7, u8]) /\ ∃ ws, MdS CE CC CB CF H H' l ws (trT P first) P.length (P.length - i)) ⟨⟨_, _, _, _, _, rfl⟩, ys, t0⟩ ?_ ?_
    · rintro i σ H4 il ⟨⟨u4, u5, u6, u7, u8, rfl⟩, ws, t⟩
      obtain ⟨qn, e1, e2, ql⟩ : ∃ qn : Nat, P.length - i = qn + 1 /\ P.length - (i + 1) = qn /\ qn < P.length := ⟨P.length - (i + 1), by omega, rfl, by omega⟩
      have eq : (P.length : Int) - 1 + (i : Int) * -1 = (qn : Int) := by omega
      rw [eq]
      rw [e1] at t
      obtain ⟨e, he⟩ : ∃ e, P[qn]? = some e := ⟨_, List.getElem?_eq_getElem ql⟩
      obtain ⟨ra, hra⟩ : ∃ ra, as[qn]? = some ra := ⟨_, List.getElem?_eq_getElem (by omega)⟩
      have hrow := t.sm _ _ (hrows qn ra e hra he)
      have hpl4 := t.sm _ _ hpl
      have wl := t.len
      have TI := tr_is ok first he
      obtain ⟨_, _, k4⟩ := ok.dd qn e he
      have ch : ∀ b, qn < b -> b < P.length -> ∃ w, atI ws (b : Int) = some w /\ StepAt CE CC CB CF H4 (trT P first b) w := fun b h1 h2 => by
        obtain ⟨w, hw⟩ : ∃ w, ws[b]? = some w := ⟨_, List.getElem?_eq_getElem (by omega)⟩
        refine ⟨w, atI_nat hw, ?_⟩
        have := t.st b w hw
        rw [if_pos (by omega)] at this
        exact this
      have setq : ixN ws.length (qn : Int) = some qn := ixN_nat (by omega)
      dsimp only [gName, List.set]
      refine seq_abs fun M hM => ?_
      refine ⟨_, rfl, _, rfl, pl, _, _, _, rfl, rfl, SqL.of hpl4, atI_nat (v := .ref ra) (by rw [List.getElem?_map, hra]; rfl), ra, _, rfl, SqL.of hrow, rfl, _, _, rfl, _, _, rfl, _, _, rfl, _, _, rfl, rfl, hM _ _ ?_⟩
      clear hM M
      try dsimp only [List.set]
      have c0 : decide (V.str (kStr e.k) = V.str "end") = decide (e.k = 0) := kEq (b := 0) k4 (by omega)
      have c1 : decide (V.str (kStr e.k) = V.str "curl") = decide (e.k = 1) := kEq (b := 1) k4 (by omega)
      have c2 : decide (V.str (kStr e.k) = V.str "bridge") = decide (e.k = 2) := kEq (b := 2) k4 (by omega)
      have c3 : decide (V.str (kStr e.k) = V.str "fork") = decide (e.k = 3) := kEq (b := 3) k4 (by omega)
      have c4 : decide (V.str (kStr e.k) = V.str "both") = decide (e.k = 4) := kEq (b := 4) k4 (by omega)
      refine ⟨_, rfl, rfl, _, rfl, ?_⟩
      rw [c0]
      by_cases k0 : e.k = 0
      · rw [decide_eq_true k0]
        refine iteT ⟨_, rfl, _, rfl, ?_⟩
        cases al with
        | true =>
          refine iteT ?_
          obtain ⟨w, hw⟩ : ∃ w, ws[ws.length - 1]? = some w := ⟨_, List.getElem?_eq_getElem (by omega)⟩
          have sw := t.st _ w hw
          have last : StepAt CE CC CB CF H4 .fin w := by
            by_cases z : qn + 1 <= ws.length - 1
            · rw [if_pos z] at sw
              obtain ⟨x, hx⟩ : ∃ x, P[ws.length - 1]? = some x := ⟨_, List.getElem?_eq_getElem (by omega)⟩
              have xk : x.k = 0 := Classical.byContradiction fun y => by
                obtain ⟨h1, ⟨y1, h2, _⟩, _⟩ := ok.kid _ x hx y
                have := (List.getElem?_eq_some_iff.mp h2).1
                omega
              rw [(tr_is ok first hx).k0 xk] at sw
              exact sw
            · rw [if_neg z] at sw
              exact sw
          refine ⟨_, rfl, _, rfl, l, _, _, _, rfl, rfl, SqL.of t.hl, at_end (by omega) hw, _, rfl, _, rfl, l, _, _, _, rfl, rfl, t.hl, setq, ?_⟩
          refine ⟨⟨_, _, _, _, _, rfl⟩, ws.set qn w, ?_⟩
          rw [e2]
          exact t.put ql (Same.refl _) (by rw [TI.k0 k0]; exact last)
        | false =>
          refine iteF ?_
          refine ⟨_, rfl, rfl, _, rfl, ?_⟩
          rw [c1, decide_eq_false (by omega)]
          refine iteF ⟨_, rfl, rfl, _, rfl, ?_⟩
          rw [c2, decide_eq_false (by omega)]
          refine iteF ⟨_, rfl, rfl, _, rfl, ?_⟩
          rw [c3, decide_eq_false (by omega)]
          refine iteF ⟨_, rfl, rfl, _, rfl, ?_⟩
          rw [c4, decide_eq_false (by omega)]
          refine iteF ⟨⟨_, _, _, _, _, rfl⟩, ws, ?_⟩
          rw [e2]
          exact t.skip (TI.k0 k0)
      · rw [decide_eq_false k0]
        refine iteF (iteF ?_)
        obtain ⟨hb, ⟨x, hx, _⟩, h3⟩ := ok.kid qn e he k0
        obtain ⟨w, aw, sw⟩ := ch e.b hb (List.getElem?_eq_some_iff.mp hx).1
        refine ⟨_, rfl, rfl, _, rfl, ?_⟩
        rw [c1]
        by_cases k1 : e.k = 1
        · rw [decide_eq_true k1]
          refine iteT ?_
          refine ⟨_, rfl, _, rfl, _, _, rfl, rfl, _, rfl, _, rfl, l, _, _, _, rfl, rfl, SqL.of t.hl, aw, ?_⟩
          intro x dx nx ndx nex
          have sm := made_same (o1 := .own x) (o2 := .ins CC dx []) (o3 := .ins CC dx (f2 (.int (first + qn)) w)) nx ndx
          refine ⟨x, dx, .int (first + qn), w, rfl, upd_same, rfl, _, rfl, _, rfl, l, _, _, _, rfl, rfl, sm _ _ t.hl, setq, ?_⟩
          refine ⟨⟨_, _, _, _, _, rfl⟩, ws.set qn (.ref x), ?_⟩
          rw [e2]
          exact t.put ql sm (by rw [TI.k1 k1]; exact ⟨x, dx, w, rfl, upd_same, sw.same sm⟩)
        rw [decide_eq_false k1]
        refine iteF ⟨_, rfl, rfl, _, rfl, ?_⟩
        rw [c2]
        by_cases k2 : e.k = 2
        · rw [decide_eq_true k2]
          refine iteT ?_
          refine ⟨_, rfl, _, rfl, _, _, rfl, rfl, _, rfl, _, rfl, l, _, _, _, rfl, rfl, SqL.of t.hl, aw, ?_⟩
          intro x dx nx ndx nex
          have sm := made_same (o1 := .own x) (o2 := .ins CB dx []) (o3 := .ins CB dx (f2 (.int (first + qn)) w)) nx ndx
          refine ⟨x, dx, .int (first + qn), w, rfl, upd_same, rfl, _, rfl, _, rfl, l, _, _, _, rfl, rfl, sm _ _ t.hl, setq, ?_⟩
          refine ⟨⟨_, _, _, _, _, rfl⟩, ws.set qn (.ref x), ?_⟩
          rw [e2]
          exact t.put ql sm (by rw [TI.k2 k2]; exact ⟨x, dx, w, rfl, upd_same, sw.same sm⟩)
        rw [decide_eq_false k2]
        refine iteF ⟨_, rfl, rfl, _, rfl, ?_⟩
        rw [c3]
        by_cases k3 : e.k = 3
        · rw [decide_eq_true k3]
          refine iteT ?_
          obtain ⟨y, hy, _⟩ := h3 k3
          obtain ⟨v, av, sv⟩ := ch (e.b + 1) (by omega) (List.getElem?_eq_some_iff.mp hy).1
          refine ⟨_, rfl, _, rfl, _, _, rfl, rfl, _, rfl, _, rfl, l, _, _, _, rfl, rfl, SqL.of t.hl, aw, _, rfl, _, rfl, _, _, rfl, rfl, l, _, _, v, rfl, rfl, SqL.of t.hl, (by rw [show ((e.b : Int) + 1) = ((e.b + 1 : Nat) : Int) by omega]; exact av), ?_⟩
          intro x dx nx ndx nex
          have sm := made_same (o1 := .own x) (o2 := .ins CF dx []) (o3 := .ins CF dx (f3 (.int (first + qn)) w v)) nx ndx
          refine ⟨x, dx, .int (first + qn), w, v, rfl, upd_same, rfl, _, rfl, _, rfl, l, _, _, _, rfl, rfl, sm _ _ t.hl, setq, ?_⟩
          refine ⟨⟨_, _, _, _, _, rfl⟩, ws.set qn (.ref x), ?_⟩
          rw [e2]
          exact t.put ql sm (by rw [TI.k3 k3]; exact ⟨x, dx, w, v, rfl, upd_same, sw.same sm, sv.same sm⟩)
        rw [decide_eq_false k3]
        refine iteF ⟨_, rfl, rfl, _, rfl, ?_⟩
        have k5 : e.k = 4 := by omega
        rw [c4, decide_eq_true k5]
        refine iteT ?_
        refine ⟨_, rfl, _, rfl, _, _, rfl, rfl, _, rfl, _, rfl, l, _, _, _, rfl, rfl, SqL.of t.hl, aw, _, rfl, _, rfl, l, _, _, _, rfl, rfl, SqL.of t.hl, aw, ?_⟩
        intro x dx nx ndx nex
        have sm := made_same (o1 := .own x) (o2 := .ins CF dx []) (o3 := .ins CF dx (f3 (.int (first + qn)) w w)) nx ndx
        refine ⟨x, dx, .int (first + qn), w, w, rfl, upd_same, rfl, _, rfl, _, rfl, l, _, _, _, rfl, rfl, sm _ _ t.hl, setq, ?_⟩
        refine ⟨⟨_, _, _, _, _, rfl⟩, ws.set qn (.ref x), ?_⟩
        rw [e2]
        exact t.put ql sm (by rw [TI.k4 k5]; exact ⟨x, dx, w, w, rfl, upd_same, sw.same sm, sw.same sm⟩)
    · rintro σ H4 ⟨⟨u4, u5, u6, u7, u8, rfl⟩, ws, t⟩
      refine hM _ _ ⟨_, rfl, q _ _ t.sm ⟨l, ws, rfl, t.hl, t.len, fun i w hw => ?_⟩⟩
      have := t.st i w hw
      rw [Nat.sub_self, if_pos (Nat.zero_le _)] at this
      exact this
end
def lI (t : Int) (x : Lf) : Lf := (x.1, insI t x.2.1, x.2.2)
def LvsAt (H : Hp) (v : V) (M : List Lf) : Prop := ∃ (l : Addr) (xs : List V), v = .ref l /\ H l = some (.lst xs) /\ Paired (LeafAt H) xs M
def spLvs (g : Int -> Lf -> Lf) : Sp := fun vs H Q _ => ∃ (v : V) (M : List Lf) (t : Int), vs = [v, .int t] /\ LvsAt H v M /\ M.length <= 400 /\ (∀ x ∈ M, Up3 x /\ Len3 30 x) /\ ∀ u H', Same H H' -> LvsAt H' u (M.map (g t)) -> Q u H'
section
variable {P : Program} {w : World} {K : W.Frag} {mg : Str -> Option Value} {base : Heap}
seal PSs PS PE PI PA PT PG
theorem call_sortedKK {X : Cx} (K : W.Frag) (h : X.K = K := by rfl) : CallR X (.builtin "sorted") (rSortedK .t K) := h ▸ call_sortedK .t
theorem ndL4 : (["_law_tree", "_law_inside_here", "_law_beyond_here", "_law_tie"] : List Str).Nodup := by decide +kernel
theorem sc_sLWithin : FnScope ["_law_leaves", "_law_tie"] ["_law_leaves", "_law_tie"] (defScope sLWithin) := ⟨rfl, rfl, rfl, by decide +kernel, rfl, by decide +kernel, by decide +kernel⟩
theorem d_sLWithin (T : Txt K mg) (S : Src K mg "_law_within" sLWithin ["_law_leaves", "_law_tie"]) : Def P w K mg base 1 "_law_within" ["_law_leaves", "_law_tie"] (spLvs lF) := by
  refine S.def sc_sLWithin (fun vs H Q E h => ?_) (fun f cdv A outer s H vs Q E hr h => ?_)
  · obtain ⟨_, _, _, rfl, _⟩ := h; rfl
  · obtain ⟨v, M, t, rfl, ⟨l, xs, rfl, hl, hx⟩, m4, up, q⟩ := h
    refine ⟨_, pss_one (ps_ret (pe_comp (N' := ["_law_tree", "_law_inside_here", "_law_beyond_here", "_law_tie"]) (fr := [none, none, none, some 1]) (compOk_of (by rfl)) rfl (pi_seqK K .l (pv 0))
          (g := gTup K 3 (gCons (gName 0) (gCons (gName 1) (gCons (gName 2) gNil)))) (fun _ _ _ _ => pg_tupK K 3 rfl (pgs_cons (pg_name (i := 0) ndL4 rfl (Or.inl rfl) (Or.inr rfl)) (pgs_cons (pg_name (i := 1) ndL4 rfl (Or.inl rfl) (Or.inr rfl)) (pgs_cons (pg_name (i := 2) ndL4 rfl (Or.inl rfl) (Or.inr rfl)) pgs_nil)))) (fun _ _ _ _ => pifs_nil)
          (fun _ _ _ _ => pe_tup (pa_cons (pe_callTy (call_tuple_ofK K) rfl T.tuple boot_tuple' (pa_cons (pe_callB (call_sortedKK K) (by rfl) T.sorted boot_sorted' (pa_cons (pe_op (op_catAK K) (pv 0) (pe_tup (pa_cons (pv 3) pa_nil))) pa_nil)) pa_nil)) (pa_cons (pv 1) (pa_cons (pv 2) pa_nil)))))), ?_⟩
    have xl : xs.length = M.length := Paired.length hx
    refine ⟨_, rfl, l, rfl, ⟨_, SqL.of hl⟩, comp_seq (k := .l) (K := K) (a := l) (xs := xs) (fun σ => ∃ u v r, σ = [u, v, r, some (.int t)]) (fun i ys H' => Same H H' /\ Paired (LeafAt H') ys ((M.take i).map (lF t))) ⟨_, _, _, rfl⟩ ⟨Same.refl _, .nil⟩ (natB (by omega)) (fun i ys H' _ z => SqL.of (z.1 _ _ hl)) ?_ ?_⟩
    · rintro i x ys σ H2 Z hx2 ⟨u, v, r2, rfl⟩ ⟨sm, P2⟩ hZ
      obtain ⟨y, ey, hy⟩ := Paired.at hx hx2
      obtain ⟨b, c1, c2, c3, rfl, hb, h1, h2, h3⟩ := LeafAt.ex (NestAt.same hy sm)
      obtain ⟨⟨u1, u2, u3⟩, l1, l2, l3⟩ := up y (List.mem_of_getElem? ey)
      refine ⟨b, _, rfl, SqT.of hb, rfl, _, _, rfl, _, _, rfl, _, _, rfl, rfl, ?_⟩
      dsimp only [gName, List.set]
      refine yesT ⟨_, rfl, _, rfl, by show 1 <= sizeLine; decide, fun p1 hp1 => ?_⟩
      have t1 := Same.new (o := HO.tup [.int t]) hp1
      refine ⟨c1, p1, _, _, rfl, rfl, t1 _ _ h1, upd_same, ?_, fun p2 H3 t2 hp2 => ?_⟩
      · rw [List.length_map]
        exact Nat.le_of_lt (Nat.lt_of_le_of_lt (show (y.1).length + 1 <= 100 by omega) (by decide))
      have e2 : H3 p2 = some (.tup ((y.1 ++ [t]).map V.int)) := by rw [hp2, List.map_append]; rfl
      refine ⟨p2, y.1 ++ [t], rfl, SqT.of e2, by rw [List.length_append, List.length_singleton]; omega, fun gg ms pm um hg => ?_⟩
      have em : ms = insI t y.1 := perm_up (pm.trans ((List.perm_append_singleton t _).trans (insI_perm t _).symm)) um (insI_up u1)
      refine ⟨gg, _, rfl, .inl ⟨SqL.of upd_same, fun pp hpp => ?_⟩⟩
      have s3 := ((t1.trans t2).trans ((Same.new (o := HO.lst (ms.map V.int)) hg).trans (Same.new (o := HO.tup (ms.map V.int)) hpp)))
      have hp : (upd (upd H3 gg (.lst (ms.map V.int))) pp (.tup (ms.map V.int))) pp = some (.tup ((insI t y.1).map V.int)) := by rw [upd_same, em]
      generalize upd (upd H3 gg (.lst (ms.map V.int))) pp (.tup (ms.map V.int)) = H5 at s3 hp ⊢
      refine ⟨_, rfl, _, rfl, by show 3 <= sizeLine; decide, fun g3 hg3 => ?_⟩
      have s4 := Same.new (o := HO.tup [.ref pp, .ref c2, .ref c3]) hg3
      refine hZ _ _ _ ⟨_, _, _, rfl⟩ ⟨sm.trans (s3.trans s4), ?_⟩ (by simp)
      rw [take_succ_of ey, List.map_append]
      exact L2.Paired.snoc (leafs_same P2 (s3.trans s4)) (LeafAt.mk upd_same (s4 _ _ hp) (s4 _ _ (s3 _ _ h2)) (s4 _ _ (s3 _ _ h3)))
    · rintro ys H2 ⟨sm, P2⟩ p2 hp2
      rw [xl, List.take_length] at P2
      have s3 := Same.new (o := HO.lst ys) hp2
      exact q _ _ (sm.trans s3) ⟨p2, ys, rfl, upd_same, leafs_same P2 s3⟩
theorem sc_sLBeyond : FnScope ["_law_leaves", "_law_tie"] ["_law_leaves", "_law_tie"] (defScope sLBeyond) := ⟨rfl, rfl, rfl, by decide +kernel, rfl, by decide +kernel, by decide +kernel⟩
theorem d_sLBeyond (T : Txt K mg) (S : Src K mg "_law_beyond" sLBeyond ["_law_leaves", "_law_tie"]) : Def P w K mg base 1 "_law_beyond" ["_law_leaves", "_law_tie"] (spLvs lC) := by
  refine S.def sc_sLBeyond (fun vs H Q E h => ?_) (fun f cdv A outer s H vs Q E hr h => ?_)
  · obtain ⟨_, _, _, rfl, _⟩ := h; rfl
  · obtain ⟨v, M, t, rfl, ⟨l, xs, rfl, hl, hx⟩, m4, up, q⟩ := h
    refine ⟨_, pss_one (ps_ret (pe_comp (N' := ["_law_tree", "_law_inside_here", "_law_beyond_here", "_law_tie"]) (fr := [none, none, none, some 1]) (compOk_of (by rfl)) rfl (pi_seqK K .l (pv 0))
          (g := gTup K 3 (gCons (gName 0) (gCons (gName 1) (gCons (gName 2) gNil)))) (fun _ _ _ _ => pg_tupK K 3 rfl (pgs_cons (pg_name (i := 0) ndL4 rfl (Or.inl rfl) (Or.inr rfl)) (pgs_cons (pg_name (i := 1) ndL4 rfl (Or.inl rfl) (Or.inr rfl)) (pgs_cons (pg_name (i := 2) ndL4 rfl (Or.inl rfl) (Or.inr rfl)) pgs_nil)))) (fun _ _ _ _ => pifs_nil)
          (fun _ _ _ _ => pe_tup (pa_cons (pv 0) (pa_cons (pv 1) (pa_cons (pe_callTy (call_tuple_ofK K) rfl T.tuple boot_tuple' (pa_cons (pe_callB (call_sortedKK K) (by rfl) T.sorted boot_sorted' (pa_cons (pe_op (op_catAK K) (pv 2) (pe_tup (pa_cons (pv 3) pa_nil))) pa_nil)) pa_nil)) pa_nil)))))), ?_⟩
    have xl : xs.length = M.length := Paired.length hx
    refine ⟨_, rfl, l, rfl, ⟨_, SqL.of hl⟩, comp_seq (k := .l) (K := K) (a := l) (xs := xs) (fun σ => ∃ u v r, σ = [u, v, r, some (.int t)]) (fun i ys H' => Same H H' /\ Paired (LeafAt H') ys ((M.take i).map (lC t))) ⟨_, _, _, rfl⟩ ⟨Same.refl _, .nil⟩ (natB (by omega)) (fun i ys H' _ z => SqL.of (z.1 _ _ hl)) ?_ ?_⟩
    · rintro i x ys σ H2 Z hx2 ⟨u, v, r2, rfl⟩ ⟨sm, P2⟩ hZ
      obtain ⟨y, ey, hy⟩ := Paired.at hx hx2
      obtain ⟨b, c1, c2, c3, rfl, hb, h1, h2, h3⟩ := LeafAt.ex (NestAt.same hy sm)
      obtain ⟨⟨u1, u2, u3⟩, l1, l2, l3⟩ := up y (List.mem_of_getElem? ey)
      refine ⟨b, _, rfl, SqT.of hb, rfl, _, _, rfl, _, _, rfl, _, _, rfl, rfl, ?_⟩
      dsimp only [gName, List.set]
      refine yesT ⟨_, rfl, _, rfl, _, rfl, _, rfl, by show 1 <= sizeLine; decide, fun p1 hp1 => ?_⟩
      have t1 := Same.new (o := HO.tup [.int t]) hp1
      refine ⟨c3, p1, _, _, rfl, rfl, t1 _ _ h3, upd_same, ?_, fun p2 H3 t2 hp2 => ?_⟩
      · rw [List.length_map]
        exact Nat.le_of_lt (Nat.lt_of_le_of_lt (show (y.2.2).length + 1 <= 100 by omega) (by decide))
      have e2 : H3 p2 = some (.tup ((y.2.2 ++ [t]).map V.int)) := by rw [hp2, List.map_append]; rfl
      refine ⟨p2, y.2.2 ++ [t], rfl, SqT.of e2, by rw [List.length_append, List.length_singleton]; omega, fun gg ms pm um hg => ?_⟩
      have em : ms = insI t y.2.2 := perm_up (pm.trans ((List.perm_append_singleton t _).trans (insI_perm t _).symm)) um (insI_up u3)
      refine ⟨gg, _, rfl, .inl ⟨SqL.of upd_same, fun pp hpp => ?_⟩⟩
      have s3 := ((t1.trans t2).trans ((Same.new (o := HO.lst (ms.map V.int)) hg).trans (Same.new (o := HO.tup (ms.map V.int)) hpp)))
      have hp : (upd (upd H3 gg (.lst (ms.map V.int))) pp (.tup (ms.map V.int))) pp = some (.tup ((insI t y.2.2).map V.int)) := by rw [upd_same, em]
      generalize upd (upd H3 gg (.lst (ms.map V.int))) pp (.tup (ms.map V.int)) = H5 at s3 hp ⊢
      refine ⟨by show 3 <= sizeLine; decide, fun g3 hg3 => ?_⟩
      have s4 := Same.new (o := HO.tup [.ref c1, .ref c2, .ref pp]) hg3
      refine hZ _ _ _ ⟨_, _, _, rfl⟩ ⟨sm.trans (s3.trans s4), ?_⟩ (by simp)
      rw [take_succ_of ey, List.map_append]
      exact L2.Paired.snoc (leafs_same P2 (s3.trans s4)) (LeafAt.mk upd_same (s4 _ _ (s3 _ _ h1)) (s4 _ _ (s3 _ _ h2)) (s4 _ _ hp))
    · rintro ys H2 ⟨sm, P2⟩ p2 hp2
      rw [xl, List.take_length] at P2
      have s3 := Same.new (o := HO.lst ys) hp2
      exact q _ _ (sm.trans s3) ⟨p2, ys, rfl, upd_same, leafs_same P2 s3⟩
theorem sc_sLInside : FnScope ["_law_leaves", "_law_tie"] ["_law_leaves", "_law_tie"] (defScope sLInside) := ⟨rfl, rfl, rfl, by decide +kernel, rfl, by decide +kernel, by decide +kernel⟩
theorem d_sLInside (T : Txt K mg) (S : Src K mg "_law_inside" sLInside ["_law_leaves", "_law_tie"]) : Def P w K mg base 1 "_law_inside" ["_law_leaves", "_law_tie"] (spLvs lI) := by
  refine S.def sc_sLInside (fun vs H Q E h => ?_) (fun f cdv A outer s H vs Q E hr h => ?_)
  · obtain ⟨_, _, _, rfl, _⟩ := h; rfl
  · obtain ⟨v, M, t, rfl, ⟨l, xs, rfl, hl, hx⟩, m4, up, q⟩ := h
    refine ⟨_, pss_one (ps_ret (pe_comp (N' := ["_law_tree", "_law_inside_here", "_law_beyond_here", "_law_tie"]) (fr := [none, none, none, some 1]) (compOk_of (by rfl)) rfl (pi_seqK K .l (pv 0))
          (g := gTup K 3 (gCons (gName 0) (gCons (gName 1) (gCons (gName 2) gNil)))) (fun _ _ _ _ => pg_tupK K 3 rfl (pgs_cons (pg_name (i := 0) ndL4 rfl (Or.inl rfl) (Or.inr rfl)) (pgs_cons (pg_name (i := 1) ndL4 rfl (Or.inl rfl) (Or.inr rfl)) (pgs_cons (pg_name (i := 2) ndL4 rfl (Or.inl rfl) (Or.inr rfl)) pgs_nil)))) (fun _ _ _ _ => pifs_nil)
          (fun _ _ _ _ => pe_tup (pa_cons (pv 0) (pa_cons (pe_callTy (call_tuple_ofK K) rfl T.tuple boot_tuple' (pa_cons (pe_callB (call_sortedKK K) (by rfl) T.sorted boot_sorted' (pa_cons (pe_op (op_catAK K) (pv 1) (pe_tup (pa_cons (pv 3) pa_nil))) pa_nil)) pa_nil)) (pa_cons (pv 2) pa_nil)))))), ?_⟩
    have xl : xs.length = M.length := Paired.length hx
    refine ⟨_, rfl, l, rfl, ⟨_, SqL.of hl⟩, comp_seq (k := .l) (K := K) (a := l) (xs := xs) (fun σ => ∃ u v r, σ = [u, v, r, some (.int t)]) (fun i ys H' => Same H H' /\ Paired (LeafAt H') ys ((M.take i).map (lI t))) ⟨_, _, _, rfl⟩ ⟨Same.refl _, .nil⟩ (natB (by omega)) (fun i ys H' _ z => SqL.of (z.1 _ _ hl)) ?_ ?_⟩
    · rintro i x ys σ H2 Z hx2 ⟨u, v, r2, rfl⟩ ⟨sm, P2⟩ hZ
      obtain ⟨y, ey, hy⟩ := Paired.at hx hx2
      obtain ⟨b, c1, c2, c3, rfl, hb, h1, h2, h3⟩ := LeafAt.ex (NestAt.same hy sm)
      obtain ⟨⟨u1, u2, u3⟩, l1, l2, l3⟩ := up y (List.mem_of_getElem? ey)
      refine ⟨b, _, rfl, SqT.of hb, rfl, _, _, rfl, _, _, rfl, _, _, rfl, rfl, ?_⟩
      dsimp only [gName, List.set]
      refine yesT ⟨_, rfl, _, rfl, _, rfl, by show 1 <= sizeLine; decide, fun p1 hp1 => ?_⟩
      have t1 := Same.new (o := HO.tup [.int t]) hp1
      refine ⟨c2, p1, _, _, rfl, rfl, t1 _ _ h2, upd_same, ?_, fun p2 H3 t2 hp2 => ?_⟩
      · rw [List.length_map]
        exact Nat.le_of_lt (Nat.lt_of_le_of_lt (show (y.2.1).length + 1 <= 100 by omega) (by decide))
      have e2 : H3 p2 = some (.tup ((y.2.1 ++ [t]).map V.int)) := by rw [hp2, List.map_append]; rfl
      refine ⟨p2, y.2.1 ++ [t], rfl, SqT.of e2, by rw [List.length_append, List.length_singleton]; omega, fun gg ms pm um hg => ?_⟩
      have em : ms = insI t y.2.1 := perm_up (pm.trans ((List.perm_append_singleton t _).trans (insI_perm t _).symm)) um (insI_up u2)
      refine ⟨gg, _, rfl, .inl ⟨SqL.of upd_same, fun pp hpp => ?_⟩⟩
      have s3 := ((t1.trans t2).trans ((Same.new (o := HO.lst (ms.map V.int)) hg).trans (Same.new (o := HO.tup (ms.map V.int)) hpp)))
      have hp : (upd (upd H3 gg (.lst (ms.map V.int))) pp (.tup (ms.map V.int))) pp = some (.tup ((insI t y.2.1).map V.int)) := by rw [upd_same, em]
      generalize upd (upd H3 gg (.lst (ms.map V.int))) pp (.tup (ms.map V.int)) = H5 at s3 hp ⊢
      refine ⟨_, rfl, by show 3 <= sizeLine; decide, fun g3 hg3 => ?_⟩
      have s4 := Same.new (o := HO.tup [.ref c1, .ref pp, .ref c3]) hg3
      refine hZ _ _ _ ⟨_, _, _, rfl⟩ ⟨sm.trans (s3.trans s4), ?_⟩ (by simp)
      rw [take_succ_of ey, List.map_append]
      exact L2.Paired.snoc (leafs_same P2 (s3.trans s4)) (LeafAt.mk upd_same (s4 _ _ (s3 _ _ h1)) (s4 _ _ hp) (s4 _ _ (s3 _ _ h3)))
    · rintro ys H2 ⟨sm, P2⟩ p2 hp2
      rw [xl, List.take_length] at P2
      have s3 := Same.new (o := HO.lst ys) hp2
      exact q _ _ (sm.trans s3) ⟨p2, ys, rfl, upd_same, leafs_same P2 s3⟩
end
def entK (t : T3) : List Key × V := (kk (k3 t), V.int t.2.2)
theorem TabIs.ents {ts : List T3} {kvs : TTab} (h : TabIs ts kvs) : ∃ es : List T3, kvs = es.map entK /\ (∀ t ∈ es, t.2.2 = coef ts (k3 t)) /\ (es.map k3).Nodup := by
  have go : ∀ l : TTab, (∀ p ∈ l, ∃ k, p = (kk k, V.int (coef ts k))) -> ∃ es : List T3, l = es.map entK /\ ∀ t ∈ es, t.2.2 = coef ts (k3 t) := by
    intro l
    induction l with
    | nil => exact fun _ => ⟨[], rfl, fun _ z => (nomatch z)⟩
    | cons p l ih =>
      intro hp
      obtain ⟨k, rfl⟩ := hp p List.mem_cons_self
      obtain ⟨es, rfl, h2⟩ := ih fun q hq => hp q (List.mem_cons_of_mem _ hq)
      refine ⟨(k.1, k.2, coef ts k) :: es, rfl, fun t ht => ?_⟩
      rcases List.mem_cons.mp ht with rfl | ht
      · rfl
      · exact h2 t ht
  obtain ⟨es, rfl, h2⟩ := go kvs h.val
  refine ⟨es, rfl, h2, ?_⟩
  have nd := h.nd
  rw [List.map_map] at nd
  have e : ((fun p : List Key × V => p.1) ∘ entK) = kk ∘ k3 := rfl
  rw [e, <- List.map_map] at nd
  unfold List.Nodup at nd ⊢
  rw [List.pairwise_map (f := kk)] at nd
  exact nd.imp fun h z => h (by rw [z])
theorem coef_one : ∀ {es : List T3} {t : T3}, (es.map k3).Nodup -> t ∈ es -> coef es (k3 t) = t.2.2
  | u :: es, t, nd, ht => by
    rw [List.map_cons, List.nodup_cons] at nd
    rw [coef_cons]
    rcases List.mem_cons.mp ht with rfl | ht
    · rw [if_pos rfl, coef_zero fun v hv z => nd.1 (List.mem_map.mpr ⟨v, hv, z⟩)]
      exact Int.add_zero _
    · rw [if_neg fun z => nd.1 (List.mem_map.mpr ⟨t, ht, z.symm⟩), coef_one nd.2 ht]
      exact Int.zero_add _
theorem ents_coef {ts : List T3} {es : List T3} (h : TabIs ts (es.map entK)) (h2 : ∀ t ∈ es, t.2.2 = coef ts (k3 t)) (nd : (es.map k3).Nodup) (k : Int × Int) : coef es k = coef ts k := by
  by_cases c : ∃ t ∈ es, k3 t = k
  · obtain ⟨t, ht, rfl⟩ := c
    rw [coef_one nd ht, h2 t ht]
  · rw [coef_zero fun t ht z => c ⟨t, ht, z⟩, coef_zero fun t ht z => ?_]
    have := h.has t ht
    rw [List.map_map] at this
    obtain ⟨u, hu, eu⟩ := List.mem_map.mp this
    exact c ⟨u, hu, (kk_inj eu).trans z⟩
theorem TabIs.conv {A B : List T3} {kvs : TTab} (h : TabIs A kvs) (hc : ∀ k, coef A k = coef B k) (hb : ∀ t ∈ B, kk (k3 t) ∈ kvs.map (·.1)) (hl : kvs.length <= B.length) : TabIs B kvs := ⟨h.nd, fun p hp => by
  obtain ⟨k, e⟩ := h.val p hp
  exact ⟨k, by rw [e, hc]⟩, hb, hl⟩
theorem TabIs.app {A B es : List T3} {kvs : TTab} (hB : TabIs B (es.map entK)) (h2 : ∀ t ∈ es, t.2.2 = coef B (k3 t)) (nd : (es.map k3).Nodup) (h : TabIs (A ++ es) kvs) (hl : kvs.length <= A.length + es.length) : TabIs (A ++ B) kvs := by
  refine h.conv (fun k => ?_) (fun t ht => ?_) ?_
  · rw [coef_app, coef_app, ents_coef hB h2 nd]
  · rcases List.mem_append.mp ht with z | z
    · exact h.has t (List.mem_append_left _ z)
    · have := hB.has t z
      rw [List.map_map] at this
      obtain ⟨u, hu, eu⟩ := List.mem_map.mp this
      have := h.has u (List.mem_append_right _ hu)
      rw [show kk (k3 t) = kk (k3 u) from eu.symm]
      exact this
  · have := hB.len
    rw [List.length_map] at this
    rw [List.length_append]
    omega
theorem k3_mul {t u : T3} {a b : Int} : k3 (mulT (a, b, 1) t) = k3 (mulT (a, b, 1) u) ↔ k3 t = k3 u := by
  obtain ⟨t1, t2, t3⟩ := t
  obtain ⟨u1, u2, u3⟩ := u
  show (a + t1, b + t2) = (a + u1, b + u2) ↔ (t1, t2) = (u1, u2)
  rw [Prod.mk.injEq, Prod.mk.injEq]
  omega
theorem TabIs.shift {B es : List T3} {kvs : TTab} {a b : Int} (hB : TabIs B (es.map entK)) (h2 : ∀ t ∈ es, t.2.2 = coef B (k3 t)) (nd : (es.map k3).Nodup) (h : TabIs (es.map (mulT (a, b, 1))) kvs) : TabIs (B.map (mulT (a, b, 1))) kvs := by
  refine h.conv (fun k => ?_) (fun t ht => ?_) ?_
  · rw [coef_shift, coef_shift, ents_coef hB h2 nd]
  · obtain ⟨v, hv, rfl⟩ := List.mem_map.mp ht
    have := hB.has v hv
    rw [List.map_map] at this
    obtain ⟨u, hu, eu⟩ := List.mem_map.mp this
    have := h.has (mulT (a, b, 1) u) (List.mem_map_of_mem hu)
    rw [show k3 (mulT (a, b, 1) v) = k3 (mulT (a, b, 1) u) from k3_mul.mpr (kk_inj eu).symm]
    exact this
  · have := hB.len
    have := h.len
    rw [List.length_map] at *
    omega
def SmZ (H H' : Hp) : Prop := ∀ b o, H b = some o -> H' b = some o \/ ∃ kvs q, (o = .dT kvs \/ ∃ q0, o = .frz q0 (.dT kvs)) /\ H' b = some (.frz q (.dT kvs))
theorem SmZ.of {H H' : Hp} (s : Same H H') : SmZ H H' := fun b o h => .inl (s b o h)
theorem SmZ.refl (H : Hp) : SmZ H H := .of (Same.refl _)
theorem SmZ.trans {H H1 H2 : Hp} (s : SmZ H H1) (t : SmZ H1 H2) : SmZ H H2 := fun b o h => by
  rcases s b o h with z | ⟨kvs, q, e, z⟩
  · exact t b o z
  · rcases t b _ z with y | ⟨kvs', q', e', y⟩
    · exact .inr ⟨kvs, q, e, y⟩
    · rcases e' with e' | ⟨q0, e'⟩
      · cases e'
      · cases e'
        exact .inr ⟨kvs, q', e, y⟩
theorem SmZ.dz {H H' : Hp} (s : SmZ H H') {d : Addr} {kvs : TTab} (h : DzAt H d kvs) : DzAt H' d kvs := by
  rcases h with h | ⟨q, h⟩
  · rcases s _ _ h with z | ⟨kvs', q, e, z⟩
    · exact .inl z
    · rcases e with e | ⟨_, e⟩
      · cases e; exact .inr ⟨q, z⟩
      · cases e
  · rcases s _ _ h with z | ⟨kvs', q', e, z⟩
    · exact .inr ⟨q, z⟩
    · rcases e with e | ⟨_, e⟩
      · cases e
      · cases e; exact .inr ⟨q', z⟩
theorem SmZ.keep {H H' : Hp} (s : SmZ H H') {d : Addr} {o : HO} (h : H d = some o) (h1 : ∀ kvs, o ≠ .dT kvs) (h2 : ∀ q kvs, o ≠ .frz q (.dT kvs)) : H' d = some o := by
  rcases s _ _ h with z | ⟨kvs, _, e | ⟨q0, e⟩, _⟩
  · exact z
  · exact absurd e (h1 kvs)
  · exact absurd e (h2 q0 kvs)
theorem SmZ.tup {H H' : Hp} (s : SmZ H H') {d : Addr} {xs : List V} (h : H d = some (.tup xs)) : H' d = some (.tup xs) := s.keep h (fun _ z => nomatch z) (fun _ _ z => nomatch z)
theorem SmZ.lst {H H' : Hp} (s : SmZ H H') {d : Addr} {xs : List V} (h : H d = some (.lst xs)) : H' d = some (.lst xs) := s.keep h (fun _ z => nomatch z) (fun _ _ z => nomatch z)
theorem SmZ.ins {H H' : Hp} (s : SmZ H H') {d C dx : Addr} {fs : List (Str × V)} (h : H d = some (.ins C dx fs)) : H' d = some (.ins C dx fs) := s.keep h (fun _ z => nomatch z) (fun _ _ z => nomatch z)
theorem SmZ.walk {H H2 : Hp} {d : Addr} {kvs : TTab} {o : Obj} (dz : DzAt H d kvs) (e2 : H2 d = some (.frz o (.dT kvs))) (f2 : ∀ b, b ≠ d -> ∀ u, H b = some u -> H2 b = some u) : SmZ H H2 := fun b u hb => by
  by_cases c : b = d
  · subst c
    refine .inr ⟨kvs, o, ?_, e2⟩
    rcases dz with z | ⟨q, z⟩
    · rw [z] at hb; cases hb; exact .inl rfl
    · rw [z] at hb; cases hb; exact .inr ⟨q, rfl⟩
  · exact .inl (f2 b c u hb)
theorem SmZ.put {H H2 : Hp} {p : Addr} {o : HO} (s : SmZ H H2) (h : H p = none) : SmZ H (upd H2 p o) := fun b u e => by
  rw [upd_ne (ne_of_none e h)]
  exact s b u e
def spRaised : Sp := fun vs H Q _ => ∃ (d : Addr) (kvs : TTab) (ts : List T3) (i j : Int), vs = [.ref d, .int i, .int j] /\ DzAt H d kvs /\ TabIs ts kvs /\ KFrom ts kvs /\ ts.length <= 400 /\
  ∀ p kvs' H', SmZ H H' -> H' p = some (.dT kvs') -> TabIs (ts.map (mulT (i, j, 1))) kvs' -> KFrom (ts.map (mulT (i, j, 1))) kvs' -> Q (.ref p) H'
section
variable {P : Program} {w : World} {K : W.Frag} {mg : Str -> Option Value} {base : Heap}
theorem scRaised : FnScope ["_law_terms", "_law_i", "_law_j", "_law_found", "_law_a", "_law_b", "_law_times"] ["_law_terms", "_law_i", "_law_j"] (defScope sRaised) := ⟨rfl, rfl, rfl, by decide +kernel, rfl, by decide +kernel, by decide +kernel⟩
theorem d_raised (S : Src K mg "_law_raised" sRaised ["_law_terms", "_law_i", "_law_j"]) : Def P w K mg base 1 "_law_raised" ["_law_terms", "_law_i", "_law_j"] spRaised := by
  refine S.def scRaised (fun vs H Q E h => ?_) (fun f cdv A outer s H vs Q E hr h => ?_)
  · obtain ⟨_, _, _, _, _, rfl, _⟩ := h; rfl
  · obtain ⟨d, kvs, ts, iI, jI, rfl, dz, tab, kf, tl, q⟩ := h
    refine ⟨_, pss_cons (ps_set (i := 3) scRaised.nd rfl (Or.inl rfl) pe_dnewT)
      (pss_cons (ps_for PassesOwn.never rfl (pi_ditemsE (pe_itemsE (pv 0))) (pg_tup rfl (pgs_cons (pg_tupK K 2 rfl (pgs_cons (pg_name (i := 4) scRaised.nd rfl (Or.inl rfl)) (pgs_cons (pg_name (i := 5) scRaised.nd rfl (Or.inl rfl)) pgs_nil))) (pgs_cons (pg_name (i := 6) scRaised.nd rfl (Or.inl rfl)) pgs_nil)))
        (pss_one (ps_dput (hu_of hr) (pv 3) (pe_tup (pa_cons (pe_op op_add (pv 4) (pv 1)) (pa_cons (pe_op op_add (pv 5) (pv 2)) pa_nil))) (pv 6) rfl)))
      (pss_one (ps_ret (pv 3)))), ?_⟩
    obtain ⟨es, rfl, h2, nd⟩ := tab.ents
    have el : es.length <= 400 := by have := tab.len; rw [List.length_map] at this; omega
    intro p hp
    have s0 := Same.new (o := HO.dT []) hp
    have hp0 : (upd H p (.dT [])) p = some (.dT []) := upd_same
    have dz0 : DzAt (upd H p (.dT [])) d (es.map entK) := (SmZ.of s0).dz dz
    have pd : p ≠ d := fun z => by
      subst z
      rcases dz with z | ⟨_, z⟩
      · rw [hp] at z; cases z
      · rw [hp] at z; cases z
    generalize upd H p (.dT []) = H0 at s0 hp0 dz0 ⊢
    dsimp only [List.set]
    refine seq_abs fun M hM => ?_
    refine ⟨_, rfl, d, _, rfl, dz0, fun v hv => ?_⟩
    have s1 := Same.new (o := viewO v d) hv
    refine ⟨v, d, _, rfl, upd_same, (SmZ.of s1).dz dz0, fun o H2 e2 f2 => ?_⟩
    have z2 : SmZ H H2 := (SmZ.of s0).trans (.walk dz0 e2 fun b hb u hu => by rw [f2 b hb]; exact s1 _ _ hu)
    have hp2 : H2 p = some (.dT []) := by rw [f2 p pd]; exact s1 _ _ hp0
    refine for_di (fun i σ H' => (∃ u4 u5 u6, σ = [some (.ref d), some (.int iI), some (.int jI), some (.ref p), u4, u5, u6]) /\ H' d = some (.frz o (.dT (es.map entK))) /\ SmZ H H' /\ ∃ kv, H' p = some (.dT kv) /\ TabIs ((es.take i).map (mulT (iI, jI, 1))) kv /\ KFrom ((es.take i).map (mulT (iI, jI, 1))) kv) ⟨⟨_, _, _, rfl⟩, e2, z2, [], hp2, TabIs.nil, fun _ z => (nomatch z)⟩ (fun i σ H' z => z.2.1) ?_ ?_
    · rintro i T b key vv σ H3 ek hT hb ⟨⟨u4, u5, u6, rfl⟩, hd3, z3, kv, hk, tb, kb⟩
      rw [List.getElem?_map] at ek
      obtain ⟨t, et, ee⟩ := Option.map_eq_some_iff.mp ek
      injection ee with e4 e5
      subst e4 e5
      have sT := Same.new (o := HO.tup [.ref b, .int t.2.2]) hT
      have hTt : (upd H3 T (.tup [.ref b, .int t.2.2])) T = some (.tup [.ref b, .int t.2.2]) := upd_same
      have hb4 := key2 (sT _ _ hb)
      have hd4 := sT _ _ hd3
      have hk4 := sT _ _ hk
      have z4 := z3.trans (.of sT)
      generalize upd H3 T (.tup [.ref b, .int t.2.2]) = H4 at hTt hb4 hd4 hk4 z4 ⊢
      refine ⟨T, _, rfl, SqT.of hTt, rfl, _, _, rfl, ⟨b, _, rfl, SqT.of hb4, rfl, _, _, rfl, _, _, rfl, rfl, _, _, rfl, rfl, ?_⟩⟩
      dsimp only [gName, List.set]
      refine ⟨_, rfl, _, rfl, _, rfl, _, rfl, _, _, rfl, rfl, _, rfl, _, rfl, _, _, rfl, rfl, by show 2 <= sizeLine; decide, fun c hc => ?_⟩
      have s5 := Same.new (o := HO.tup [.int (t.1 + iI), .int (t.2.1 + jI)]) hc
      have ek : [V.int (t.1 + iI), V.int (t.2.1 + jI)] = (kk (k3 (mulT (iI, jI, 1) t))).map kV := by
        show _ = [V.int (iI + t.1), V.int (jI + t.2.1)]
        rw [Int.add_comm t.1, Int.add_comm t.2.1]
      have hc5 : (upd H4 c (.tup [.int (t.1 + iI), .int (t.2.1 + jI)])) c = some (.tup ((kk (k3 (mulT (iI, jI, 1) t))).map kV)) := by rw [upd_same, ek]
      have hk5 := s5 _ _ hk4
      have hd5 := s5 _ _ hd4
      have z5 := z4.trans (.of s5)
      have pc : d ≠ p := Ne.symm pd
      have kl : kv.length <= 400 := by
        have := tb.len
        rw [List.length_map, List.length_take] at this
        omega
      refine ⟨p, _, rfl, DPut.t hk5 hc5 (natB (by omega)), ⟨_, _, _, rfl⟩, by rw [upd_ne pc]; exact hd5, z5.put hp, _, upd_same, ?_, by rw [take_succ_of et, List.map_append]; exact kb.put _ _⟩
      have pu := tb.put (mulT (iI, jI, 1) t)
      have c0 : coef ((es.take i).map (mulT (iI, jI, 1))) (k3 (mulT (iI, jI, 1) t)) = 0 := coef_zero fun u hu z => by
        obtain ⟨x, hx, rfl⟩ := List.mem_map.mp hu
        have ex := k3_mul.mp z
        obtain ⟨m, hm⟩ := List.mem_iff_getElem?.mp hx
        rw [List.getElem?_take] at hm
        split at hm
        · next ml =>
          have g1 : (es.map k3)[m]? = some (k3 t) := by rw [List.getElem?_map, hm, <- ex]; rfl
          have g2 : (es.map k3)[i]? = some (k3 t) := by rw [List.getElem?_map, et]; rfl
          have := (List.getElem?_inj (List.getElem?_eq_some_iff.mp g1).1 nd).mp (g1.trans g2.symm)
          omega
        · cases hm
      rw [c0, Int.zero_add, show (mulT (iI, jI, 1) t).2.2 = t.2.2 from Int.one_mul _] at pu
      rw [take_succ_of et, List.map_append]
      exact pu
    · rintro σ H3 ⟨⟨u4, u5, u6, rfl⟩, hd3, z3, kv, hk, tb, kb⟩
      rw [List.length_map, List.take_length] at tb kb
      refine hM _ _ ⟨_, rfl, q p kv H3 z3 hk (tab.shift h2 nd tb) fun x hx => ?_⟩
      obtain ⟨t, ht, e1⟩ := kb x hx
      obtain ⟨u, hu, rfl⟩ := List.mem_map.mp ht
      obtain ⟨v, hv, e3⟩ := kf (entK u) (List.mem_map_of_mem hu)
      exact ⟨_, List.mem_map_of_mem hv, by rw [e1, k3_mul.mpr (kk_inj e3)]⟩
theorem boot_dict' : bootBuiltins "dict" = some (.type "dict") := by first | rfl | decide +kernel
def spSumD (P : Program) (w : World) : Sp := fun vs H Q _ => ∃ (d1 d2 : Addr) (k1 k2 : TTab) (ts us : List T3), vs = [.ref d1, .ref d2] /\ DzAt H d1 k1 /\ TabIs ts k1 /\ KFrom ts k1 /\ DzAt H d2 k2 /\ TabIs us k2 /\ KFrom us k2 /\ ts.length + us.length <= 400 /\ k1 ≠ [] /\ (k1.map fun kv => tupleKeyHash (mixKind P w) kv.1).Nodup /\
  ∀ p kvs' H', SmZ H H' -> H' p = some (.dT kvs') -> TabIs (ts ++ us) kvs' -> KFrom (ts ++ us) kvs' -> Q (.ref p) H'
theorem scSumD : FnScope ["_law_one", "_law_other", "_law_found", "_law_powers", "_law_times"] ["_law_one", "_law_other"] (defScope sSum) := ⟨rfl, rfl, rfl, by decide +kernel, rfl, by decide +kernel, by decide +kernel⟩
theorem d_sumD (hdict : mg "dict" = none) (S : Src K mg "_law_sum" sSum ["_law_one", "_law_other"]) : Def P w K mg base 1 "_law_sum" ["_law_one", "_law_other"] (spSumD P w) := by
  refine S.def scSumD (fun vs H Q E h => ?_) (fun f cdv A outer s H vs Q E hr h => ?_)
  · obtain ⟨_, _, _, _, _, _, rfl, _⟩ := h; rfl
  · obtain ⟨d1, d2, k1, k2, ts, us, rfl, dz1, tab1, kf1, dz2, tab2, kf2, tl, ne1, nh, q⟩ := h
    refine ⟨_, pss_cons (ps_set (i := 2) scSumD.nd rfl (Or.inl rfl) (pe_callTy call_dictT rfl hdict boot_dict' (pa_cons (pv 0) pa_nil)))
      (pss_cons (ps_for PassesOwn.never rfl (pi_ditemsE (pe_itemsE (pv 1))) (pg_tupK K 2 rfl (pgs_cons (pg_name (i := 3) scSumD.nd rfl (Or.inl rfl)) (pgs_cons (pg_name (i := 4) scSumD.nd rfl (Or.inl rfl)) pgs_nil)))
        (pss_one (ps_dput (hu_of hr) (pv 2) (pv 3) (pe_op op_add (pe_dget2 (hu_of hr) (pv 2) (pv 3) pe_int ⟨rfl, rfl, rfl, rfl⟩) (pv 4)) rfl)))
      (pss_one (ps_ret (pv 2)))), ?_⟩
    obtain ⟨es, rfl, h2, nd⟩ := tab2.ents
    have el : es.length <= us.length := by have := tab2.len; rw [List.length_map] at this; exact this
    refine ⟨_, rfl, d1, k1, rfl, dz1, ne1, nh, fun p hp => ?_⟩
    have s0 := Same.new (o := HO.dT k1) hp
    have hp0 : (upd H p (.dT k1)) p = some (.dT k1) := upd_same
    have dz0 : DzAt (upd H p (.dT k1)) d2 (es.map entK) := (SmZ.of s0).dz dz2
    have pd : p ≠ d2 := fun z => by
      subst z
      rcases dz2 with z | ⟨_, z⟩
      · rw [hp] at z; cases z
      · rw [hp] at z; cases z
    generalize upd H p (.dT k1) = H0 at s0 hp0 dz0 ⊢
    dsimp only [List.set]
    refine seq_abs fun M hM => ?_
    refine ⟨_, rfl, d2, _, rfl, dz0, fun v hv => ?_⟩
    have s1 := Same.new (o := viewO v d2) hv
    refine ⟨v, d2, _, rfl, upd_same, (SmZ.of s1).dz dz0, fun o H2 e2 f2 => ?_⟩
    have z2 : SmZ H H2 := (SmZ.of s0).trans (.walk dz0 e2 fun b hb u hu => by rw [f2 b hb]; exact s1 _ _ hu)
    have hp2 : H2 p = some (.dT k1) := by rw [f2 p pd]; exact s1 _ _ hp0
    refine for_di (fun i σ H' => (∃ u3 u4, σ = [some (.ref d1), some (.ref d2), some (.ref p), u3, u4]) /\ H' d2 = some (.frz o (.dT (es.map entK))) /\ SmZ H H' /\ ∃ kv, H' p = some (.dT kv) /\ TabIs (ts ++ es.take i) kv /\ KFrom (ts ++ es.take i) kv) ⟨⟨_, _, rfl⟩, e2, z2, k1, hp2, by rw [List.take_zero, List.append_nil]; exact ⟨tab1, kf1⟩⟩ (fun i σ H' z => z.2.1) ?_ ?_
    · rintro i T b key vv σ H3 ek hT hb ⟨⟨u3, u4, rfl⟩, hd3, z3, kv, hk, tb, kb⟩
      rw [List.getElem?_map] at ek
      obtain ⟨t, et, ee⟩ := Option.map_eq_some_iff.mp ek
      injection ee with e4 e5
      subst e4 e5
      have sT := Same.new (o := HO.tup [.ref b, .int t.2.2]) hT
      have hTt : (upd H3 T (.tup [.ref b, .int t.2.2])) T = some (.tup [.ref b, .int t.2.2]) := upd_same
      have hb4 := sT _ _ hb
      have hd4 := sT _ _ hd3
      have hk4 := sT _ _ hk
      have z4 := z3.trans (.of sT)
      generalize upd H3 T (.tup [.ref b, .int t.2.2]) = H4 at hTt hb4 hd4 hk4 z4 ⊢
      refine ⟨T, _, rfl, SqT.of hTt, rfl, _, _, rfl, _, _, rfl, rfl, ?_⟩
      dsimp only [gName, List.set]
      refine ⟨_, rfl, p, rfl, .inr ⟨_, .inl hk4⟩, _, rfl, _, DGet.t hk4 hb4, ?_⟩
      rw [tb.at]
      have kl : kv.length <= 400 := by
        have := tb.len
        rw [List.length_append, List.length_take] at this
        omega
      refine ⟨_, rfl, _, _, rfl, rfl, _, rfl, _, rfl, p, _, rfl, DPut.t hk4 hb4 (natB (by omega)), ⟨_, _, rfl⟩, by rw [upd_ne (Ne.symm pd)]; exact hd4, z4.put hp, _, upd_same, ?_, ?_⟩
      · rw [take_succ_of et, <- List.append_assoc]
        exact tb.put t
      · rw [take_succ_of et, <- List.append_assoc]
        exact kb.put _ _
    · rintro σ H3 ⟨⟨u3, u4, rfl⟩, hd3, z3, kv, hk, tb, kb⟩
      rw [List.length_map, List.take_length] at tb kb
      refine hM _ _ ⟨_, rfl, q p kv H3 z3 hk (tab2.app h2 nd tb (by have := tb.len; rw [List.length_append] at this; exact this)) fun x hx => ?_⟩
      obtain ⟨t, ht, e1⟩ := kb x hx
      rcases List.mem_append.mp ht with z | z
      · exact ⟨t, List.mem_append_left _ z, e1⟩
      · obtain ⟨v, hv, e3⟩ := kf2 (entK t) (List.mem_map_of_mem z)
        exact ⟨v, List.mem_append_right _ hv, by rw [e1]; exact e3⟩
end
def hkT (a b : Nat) : Int := reduceHash (Builtin.Tuple.tupleHashOf [hashInt (a : Int), hashInt (b : Int)])
def prs34 (n : Nat) : List (Nat × Nat) := (List.range (n + 1)).flatMap fun a => (List.range (n + 1 - a)).map fun b => (a, b)
def hlit : List Nat := [1207, 202, 1694, 2533, 1528, 2510, 741, 1723, 718, 1700, 3049, 2044, 3026, 2021, 3003, 1234, 2216, 1211, 2050, 424, 2537, 401, 1240, 2732, 1727, 2566, 1704, 1779, 917, 1158, 296, 1135, 2484, 348, 2461, 325, 1674, 669, 1651, 646, 864, 2977, 841, 2954, 1185, 2167, 1162, 2144, 375, 1357, 352, 1191, 2683, 404, 2660, 381, 2494, 464, 1813, 2795, 1790, 2772, 493, 1842, 980, 1819, 957, 1032, 170, 1009, 4, 222, 2335, 199, 2312, 686, 1525, 520, 1502, 2851, 715, 2828, 1823, 2041, 121, 2234, 98, 1447, 2429, 1424, 2263, 637, 1476, 614, 1453, 2945, 666, 2779, 643, 1992, 1130, 1969, 2951, 1946, 177, 1159, 154, 1136, 2485, 349, 1271, 266, 484, 2597, 1592, 2574, 805, 1787, 782, 1764, 3113, 2108, 3090, 2085, 2303, 1298, 2280, 1275, 2624, 488, 1327, 465, 1304, 2653, 517, 1222, 217, 435, 2548, 412, 2525, 2743, 1738, 733, 1715, 710, 928, 3041, 905, 3018, 1249, 2231, 3070, 2208, 439, 1278, 416, 1255, 2747, 879, 17, 856, 2969, 69, 2182, 46, 2159, 390, 1372, 367, 1349, 2698, 562, 2675, 396, 1888, 883, 1865, 2704, 1078, 73, 912, 185, 1024, 162, 1511, 2493, 214, 2327, 701, 1540, 678, 1517, 3009, 730, 2843, 707, 2056, 3038, 2033, 1028, 1246, 241, 1223, 2960, 1955, 2937, 658, 2150, 1145, 1984, 1122, 1197, 335, 1174, 312, 387, 2500, 364, 2477, 341, 1690, 2672, 1667, 662, 992, 3105, 969, 2318, 1313, 2295, 1290, 1508, 503, 1485, 480, 1829, 2811, 1806, 2788, 509, 2001, 996, 1835, 973, 943, 3056, 920, 2269, 133, 2246, 110, 2223, 454, 1436, 431, 1413, 2762, 626, 2739, 460, 1952, 2791, 1929, 249, 1088, 2580, 301, 2557, 278, 2391, 765, 1604, 2586, 1581, 2930, 794, 2907, 771, 2120, 3102, 2097, 3024, 745, 3001, 722, 2214, 3053, 2048, 3030, 1261, 399, 1238, 2220, 451, 2564, 428, 2541, 2759, 327, 1676, 2658, 379, 2635, 866, 1705, 843, 1682, 56, 895, 33, 872, 2985, 85, 2198, 1007, 2, 984, 2333, 197, 2310, 174, 1523, 518, 1500, 2339, 1477, 2826, 547, 2803, 664, 2777, 641, 2754, 618, 1967, 2949, 1944, 2783, 1157, 152, 1134, 129, 347, 3088, 809, 3065, 786, 2278, 3117, 2112, 3094, 1325, 2307, 1302, 297, 515, 391, 466, 2722, 443, 2699, 930, 1769, 2751, 1746, 120, 959, 1941, 1071, 66, 1048, 2397, 261, 2374, 95, 1587, 2426, 1564, 2403, 728, 2841, 705, 2818, 3036, 2031, 3013, 2008, 2847, 1221, 1149, 144, 362, 2475, 339, 2452, 2670, 1665, 2504, 2299, 530, 2786, 507, 2763, 2838, 1833, 2815, 2250, 624, 1463, 458, 1440, 2789, 653, 792, 2905, 769, 2882, 3100, 2095, 1213, 2562, 426, 2539, 403, 2873, 594, 1576, 571, 2314, 688, 1527, 1971, 1109, 1277]
theorem hlit_eq : (prs34 28).map (fun p => (hkT p.1 p.2 % 3118).toNat) = hlit := by decide +kernel
theorem hlit_nd : hlit.Nodup := by decide +kernel
theorem hk_inj {a b c d : Nat} (h1 : a + b <= 28) (h2 : c + d <= 28) (h : hkT a b = hkT c d) : a = c /\ b = d := by
  have mem : ∀ a b : Nat, a + b <= 28 -> (a, b) ∈ prs34 28 := fun a b h => List.mem_flatMap.mpr ⟨a, List.mem_range.mpr (by omega), List.mem_map.mpr ⟨b, List.mem_range.mpr (by omega), rfl⟩⟩
  obtain ⟨i, hi⟩ := List.mem_iff_getElem?.mp (mem a b h1)
  obtain ⟨j, hj⟩ := List.mem_iff_getElem?.mp (mem c d h2)
  have nd := hlit_nd
  rw [<- hlit_eq] at nd
  have g1 : ((prs34 28).map fun p => (hkT p.1 p.2 % 3118).toNat)[i]? = some (hkT a b % 3118).toNat := by rw [List.getElem?_map, hi]; rfl
  have g2 : ((prs34 28).map fun p => (hkT p.1 p.2 % 3118).toNat)[j]? = some (hkT a b % 3118).toNat := by rw [List.getElem?_map, hj, h]; rfl
  have e := (List.getElem?_inj (List.getElem?_eq_some_iff.mp g1).1 nd).mp (g1.trans g2.symm)
  rw [e, hj] at hi
  cases hi
  exact ⟨rfl, rfl⟩
theorem hk_is (P : Program) (w : World) (a b : Nat) : tupleKeyHash (mixKind P w) (kk ((a : Int), (b : Int))) = hkT a b := rfl
theorem TabIs.hash {P : Program} {w : World} {ts : List T3} {kvs : TTab} (h : TabIs ts kvs) (bd : ∀ p ∈ kvs, ∃ a b : Nat, p.1 = kk ((a : Int), (b : Int)) /\ a + b <= 28) : (kvs.map fun kv => tupleKeyHash (mixKind P w) kv.1).Nodup := by
  have nd := h.nd
  unfold List.Nodup at nd ⊢
  rw [List.pairwise_map] at nd ⊢
  refine List.Pairwise.imp_of_mem (fun {x y} hx hy hn z => hn ?_) nd
  obtain ⟨a, b, e1, l1⟩ := bd x hx
  obtain ⟨c, d, e2, l2⟩ := bd y hy
  rw [e1, e2, hk_is, hk_is] at z
  obtain ⟨rfl, rfl⟩ := hk_inj l1 l2 z
  rw [e1, e2]
def DuE (l : Addr) (H : Hp) (v : V) (S : Stp) : Prop := ∃ (c d l' : Addr) (kvs : TTab) (xs : List V), v = .ref c /\ H c = some (.tup [.ref d, .ref l']) /\ DzAt H d kvs /\ TabIs S.terms kvs /\ KFrom S.terms kvs /\ H l' = some (.lst xs) /\ Paired (LeafAt H) xs (lvs S) /\ l' ≠ l
theorem leaf_smz {H H' : Hp} {v : V} {x : Lf} (h : LeafAt H v x) (s : SmZ H H') : LeafAt H' v x := by
  obtain ⟨a, b, c, d, rfl, h0, h1, h2, h3⟩ := h.ex
  exact LeafAt.mk (s.tup h0) (s.tup h1) (s.tup h2) (s.tup h3)
theorem leafs_smz {H H' : Hp} {xs : List V} {M : List Lf} (h : Paired (LeafAt H) xs M) (s : SmZ H H') : Paired (LeafAt H') xs M := L2.Paired.mapP h fun _ _ q => leaf_smz q s
theorem DuE.smz {l : Addr} {H H' : Hp} {v : V} {S : Stp} (h : DuE l H v S) (s : SmZ H H') : DuE l H' v S := by
  obtain ⟨c, d, l', kvs, xs, e, h1, h2, h3, h4, h5, h6, h7⟩ := h
  exact ⟨c, d, l', kvs, xs, e, s.tup h1, s.dz h2, h3, h4, s.lst h5, leafs_smz h6 s, h7⟩
theorem leaf_put {H : Hp} {v : V} {x : Lf} {l : Addr} {xs ys : List V} (h : LeafAt H v x) (hl : H l = some (.lst xs)) : LeafAt (upd H l (.lst ys)) v x := by
  obtain ⟨a, b, c, d, rfl, h0, h1, h2, h3⟩ := h.ex
  have go : ∀ {a : Addr} {zs : List V}, H a = some (.tup zs) -> (upd H l (.lst ys)) a = some (.tup zs) := fun h => by rw [upd_ne (ne_of h hl (fun z => nomatch z))]; exact h
  exact LeafAt.mk (go h0) (go h1) (go h2) (go h3)
theorem DuE.put {l : Addr} {H : Hp} {v : V} {S : Stp} {ws ys : List V} (h : DuE l H v S) (hl : H l = some (.lst ws)) : DuE l (upd H l (.lst ys)) v S := by
  obtain ⟨c, d, l', kvs, xs, e, h1, h2, h3, h4, h5, h6, h7⟩ := h
  have h1' : (upd H l (.lst ys)) c = some (.tup [.ref d, .ref l']) := by rw [upd_ne (ne_of h1 hl (fun z => nomatch z))]; exact h1
  have h2' : DzAt (upd H l (.lst ys)) d kvs := by
    rcases h2 with z | ⟨q, z⟩
    · exact .inl (by rw [upd_ne (ne_of z hl (fun w => nomatch w))]; exact z)
    · exact .inr ⟨q, by rw [upd_ne (ne_of z hl (fun w => nomatch w))]; exact z⟩
  exact ⟨c, d, l', kvs, xs, e, h1', h2', h3, h4, by rw [upd_ne h7]; exact h5, L2.Paired.mapP h6 fun _ _ q => leaf_put q hl, h7⟩
theorem lvs_ne : ∀ S : Stp, 0 < (lvs S).length
  | .fin => by show 0 < 1; decide
  | .curl t s => by
    show 0 < ((lvs s).map (lC t)).length
    rw [List.length_map]
    exact lvs_ne s
  | .bri t s => by
    show 0 < ((lvs s).map (lB t)).length
    rw [List.length_map]
    exact lvs_ne s
  | .frk t a b => by
    show 0 < (lvs a ++ (lvs b).map (lF t)).length
    have := lvs_ne a
    rw [List.length_append]
    omega
structure DuS (H0 H : Hp) (l : Addr) (ws : List V) (T : Nat -> Stp) (n m : Nat) : Prop where
  sm : SmZ H0 H
  fl : H0 l = none
  hl : H l = some (.lst ws)
  len : ws.length = n
  st : ∀ (i : Nat) (w : V), ws[i]? = some w -> DuE l H w (if m <= i then T i else .fin)
theorem DuS.put {H0 H H2 : Hp} {l : Addr} {ws : List V} {T : Nat -> Stp} {n q : Nat} (t : DuS H0 H l ws T n (q + 1)) (hq : q < n) {v : V} (s : SmZ H H2) (hv : DuE l H2 v (T q)) : DuS H0 (upd H2 l (.lst (ws.set q v))) l (ws.set q v) T n q := by
  have hl2 := s.lst t.hl
  refine ⟨(t.sm.trans s).put t.fl, t.fl, upd_same, by rw [List.length_set]; exact t.len, fun i w hw => ?_⟩
  rw [List.getElem?_set] at hw
  split at hw
  · next c =>
    subst c
    split at hw
    · cases hw
      rw [if_pos (Nat.le_refl _)]
      exact hv.put hl2
    · cases hw
  · next c =>
    have := (t.st i w hw).smz s
    have e : (if q <= i then T i else Stp.fin) = if q + 1 <= i then T i else Stp.fin := by
      by_cases z : q + 1 <= i
      · rw [if_pos z, if_pos (by omega)]
      · rw [if_neg z, if_neg (by omega)]
    rw [e]
    exact this.put hl2
theorem DuS.skip {H0 H : Hp} {l : Addr} {ws : List V} {T : Nat -> Stp} {n q : Nat} (t : DuS H0 H l ws T n (q + 1)) (hT : T q = .fin) : DuS H0 H l ws T n q := by
  refine ⟨t.sm, t.fl, t.hl, t.len, fun i w hw => ?_⟩
  have := t.st i w hw
  by_cases z : q + 1 <= i
  · rw [if_pos z] at this
    rw [if_pos (by omega)]
    exact this
  · rw [if_neg z] at this
    by_cases y : q <= i
    · rw [if_pos y, show i = q by omega, hT]
      exact this
    · rw [if_neg y]
      exact this
theorem DuS.ne {H0 H H2 : Hp} {l : Addr} {ws : List V} {T : Nat -> Stp} {n m : Nat} (t : DuS H0 H l ws T n m) (n0 : 0 < n) (s : SmZ H H2) {l' : Addr} {xs : List V} {M : List Lf} (h : H2 l' = some (.lst xs)) (hx : Paired (LeafAt H2) xs M) (m0 : 0 < M.length) : l' ≠ l := fun z => by
  subst z
  rw [s.lst t.hl] at h
  cases h
  obtain ⟨w, hw⟩ : ∃ w, ws[0]? = some w := ⟨_, List.getElem?_eq_getElem (by rw [t.len]; exact n0)⟩
  obtain ⟨y, _, hy⟩ := Paired.at hx hw
  obtain ⟨a, b, c, d, e, h0, _⟩ := LeafAt.ex hy
  obtain ⟨c', d', l', kvs, xs, e', h1, _⟩ := (t.st 0 w hw).smz s
  rw [e] at e'
  cases e'
  rw [h0] at h1
  cases h1
def DuAt (H : Hp) (v : V) (n : Nat) (T : Nat -> Stp) : Prop := ∃ (l : Addr) (ws : List V), v = .ref l /\ H l = some (.lst ws) /\ ws.length = n /\ ∀ (i : Nat) (w : V), ws[i]? = some w -> DuE l H w (T i)
def spDues : Sp := fun vs H Q _ => ∃ (pv : V) (P : List Pe) (S : List Nat) (first : Int), vs = [pv, .int first] /\ PlAt H pv P /\ PlanOk P S /\ S.length <= 41 /\ P.length <= 81 /\ ∀ v H', SmZ H H' -> DuAt H' v P.length (trT P first) -> Q v H'
section
variable {P : Program} {w : World} {K : W.Frag} {mg : Str -> Option Value} {base : Heap}
seal PSs PS PE PI PA PT PG
theorem scDues : FnScope ["_law_plan_here", "_law_first", "_law_dues_here", "_law_at_here", "_law_kind", "_law_below", "_law_deep", "_law_twice", "_law_tie", "_law_terms", "_law_leaves", "_law_held", "_law_one", "_law_other"] ["_law_plan_here", "_law_first"] (defScope sDues) := ⟨rfl, rfl, rfl, by decide +kernel, rfl, by decide +kernel, by decide +kernel⟩
theorem d_dues (X : Txt K mg) (hrev : mg "reversed" = none) (S : Src K mg "_law_dues" sDues ["_law_plan_here", "_law_first"]) (DR : Def P w K mg base 1 "_law_raised" ["_law_terms", "_law_i", "_law_j"] spRaised) (DS : Def P w K mg base 1 "_law_sum" ["_law_one", "_law_other"] (spSumD P w)) (DF : Def P w K mg base 1 "_law_within" ["_law_leaves", "_law_tie"] (spLvs lF)) (DB : Def P w K mg base 1 "_law_beyond" ["_law_leaves", "_law_tie"] (spLvs lC)) (DI : Def P w K mg base 1 "_law_inside" ["_law_leaves", "_law_tie"] (spLvs lI)) : Def P w K mg base 2 "_law_dues" ["_law_plan_here", "_law_first"] spDues := by
  refine S.def scDues (fun vs H Q E h => ?_) (fun f cdv A outer s H vs Q E hr h => ?_)
  · obtain ⟨_, _, _, _, rfl, _⟩ := h; rfl
  · obtain ⟨pv0, P, S, first, rfl, pa, ok, s41, p81, q⟩ := h
    refine ⟨_, pss_cons (ps_setComp (i := 2) scDues.nd rfl (Or.inl rfl) (N' := ["_law_place"]) (fr := [none]) (compOk_of (by rfl)) rfl (pi_seqK K .l (pv 0)) (fun _ _ _ _ => pg_name (i := 0) ndPl rfl (Or.inl rfl) (Or.inr rfl)) (fun _ _ _ _ => pifs_nil)
        (fun _ _ _ _ => pe_tup (pa_cons (pe_dispT1 (hu_of hr) (pe_tup (pa_cons pe_int (pa_cons pe_int pa_nil))) pe_int) (pa_cons (pe_lst (pa_cons (pe_tup (pa_cons (pe_tup pa_nil) (pa_cons (pe_tup pa_nil) (pa_cons (pe_tup pa_nil) pa_nil)))) pa_nil)) pa_nil))))
      (pss_cons (ps_for PassesOwn.never rfl (pi_revrange rfl hrev rfl X.range (pa_cons (pe_callB (call_lenK K) (by rfl) X.len PySem.boot_len (pa_cons (pv 0) pa_nil)) pa_nil)) (pg_name (i := 3) scDues.nd rfl (Or.inl rfl))
        (pss_cons (ps_asg (pe_ix (ix_listK K) (pv 0) (pv 3) (fun _ _ => rfl)) (pg_tupL rfl (pgs_cons (pg_name (i := 4) scDues.nd rfl (Or.inl rfl)) (pgs_cons (pg_name (i := 5) scDues.nd rfl (Or.inl rfl)) (pgs_cons (pg_name (i := 6) scDues.nd rfl (Or.inl rfl)) (pgs_cons (pg_name (i := 7) scDues.nd rfl (Or.inl rfl)) pgs_nil))))))
        (pss_cons (ps_set (i := 8) scDues.nd rfl (Or.inl rfl) (pe_op op_add (pv 1) (pv 3)))
        (pss_one (ps_if (pt_cmpR op_eq (pv 4) pe_str (nomark _))
          (pss_cons (ps_asg (pe_ix (ix_listK K) (pv 2) (pv 5) (fun _ _ => rfl)) (pg_tupK K 2 rfl (pgs_cons (pg_name (i := 9) scDues.nd rfl (Or.inl rfl)) (pgs_cons (pg_name (i := 10) scDues.nd rfl (Or.inl rfl)) pgs_nil))))
          (pss_one (ps_asg (pe_tup (pa_cons (pe_def DR hr rfl (pa_cons (pv 9) (pa_cons pe_int (pa_cons pe_int pa_nil)))) (pa_cons (pe_def DB hr rfl (pa_cons (pv 10) (pa_cons (pv 8) pa_nil))) pa_nil))) (pg_sub (pv 2) (pv 3) set_list))))
        (pss_one (ps_if (pt_cmpR op_eq (pv 4) pe_str (nomark _))
          (pss_cons (ps_asg (pe_ix (ix_listK K) (pv 2) (pv 5) (fun _ _ => rfl)) (pg_tupK K 2 rfl (pgs_cons (pg_name (i := 9) scDues.nd rfl (Or.inl rfl)) (pgs_cons (pg_name (i := 10) scDues.nd rfl (Or.inl rfl)) pgs_nil))))
          (pss_cons (ps_set (i := 11) scDues.nd rfl (Or.inl rfl) (pe_def DF hr rfl (pa_cons (pv 10) (pa_cons (pv 8) pa_nil))))
          (pss_one (ps_asg (pe_tup (pa_cons (pe_def DR hr rfl (pa_cons (pv 9) (pa_cons pe_int (pa_cons pe_int pa_nil)))) (pa_cons (pe_def DI hr rfl (pa_cons (pv 11) (pa_cons (pv 8) pa_nil))) pa_nil))) (pg_sub (pv 2) (pv 3) set_list)))))
        (pss_one (ps_if (pt_cmpR op_ne (pv 4) pe_str (nomark _))
          (pss_cons (ps_set (i := 12) scDues.nd rfl (Or.inl rfl) (pe_ix (ix_listK K) (pv 2) (pv 5) (fun _ _ => rfl)))
          (pss_cons (ps_set (i := 13) scDues.nd rfl (Or.inl rfl) (pe_ix (ix_listK K) (pv 2) (pe_op op_add (pv 5) (pe_callTy call_intB rfl X.int boot_int' (pa_cons (pe_cmpR op_eq (pv 4) pe_str (nomark _)) pa_nil))) (fun _ _ => rfl)))
          (pss_one (ps_asg (pe_tup (pa_cons (pe_def DS hr rfl (pa_cons (pe_ix (ix_tupK K) (pv 12) pe_int (fun _ _ => rfl)) (pa_cons (pe_ix (ix_tupK K) (pv 13) pe_int (fun _ _ => rfl)) pa_nil))) (pa_cons (pe_op op_cat (pe_ix (ix_tupK K) (pv 12) pe_int (fun _ _ => rfl)) (pe_def DF hr rfl (pa_cons (pe_ix (ix_tupK K) (pv 13) pe_int (fun _ _ => rfl)) (pa_cons (pv 8) pa_nil)))) pa_nil))) (pg_sub (pv 2) (pv 3) set_list))))) pss_nil)))))))))
      (pss_one (ps_ret (pv 2)))), ?_⟩
    obtain ⟨pl, as, rfl, hpl, asl, hrows⟩ := pa.ex
    refine seq_abs fun M hM => ?_
    refine ⟨_, rfl, pl, rfl, ⟨_, SqL.of hpl⟩, comp_seq (k := .l) (K := K) (a := pl) (xs := as.map V.ref) (fun σ => ∃ u, σ = [u]) (fun i ys H' => Same H H' /\ ys.length = i /\ ∀ w ∈ ys, ∀ l, H' l = none -> DuE l H' w .fin) ⟨_, rfl⟩ ⟨Same.refl _, rfl, fun _ z => (nomatch z)⟩ (natB (by rw [List.length_map]; omega)) (fun i ys H' _ z => SqL.of (z.1 _ _ hpl)) ?_ ?_⟩
    · rintro i x ys σ H2 Z hx ⟨u, rfl⟩ ⟨sm, yl, yw⟩ hZ
      dsimp only [gName, List.set]
      refine yesT ?_
      intro p hp
      refine ⟨by show 2 <= sizeLine; decide, fun c hc => ?_⟩
      have r1 := Same.new (o := HO.dT []) hp
      have r2 := Same.new (o := HO.tup [.int 0, .int 0]) hc
      refine ⟨c, [Sum.inl 0, Sum.inl 0], rfl, upd_same, r2 _ _ upd_same, ?_⟩
      have r3 : Same H2 (upd (upd (upd H2 p (.dT [])) c (.tup [.int 0, .int 0])) p (.dT [([Sum.inl 0, Sum.inl 0], .int 1)])) := Same.put (r1.trans r2) hp
      have hp3 : (upd (upd (upd H2 p (.dT [])) c (.tup [.int 0, .int 0])) p (.dT [([Sum.inl 0, Sum.inl 0], .int 1)])) p = some (.dT [([Sum.inl 0, Sum.inl 0], .int 1)]) := upd_same
      generalize upd (upd (upd H2 p (.dT [])) c (.tup [.int 0, .int 0])) p (.dT [([Sum.inl 0, Sum.inl 0], .int 1)]) = H3 at r3 hp3 ⊢
      refine ⟨Nat.zero_le _, fun b1 hb1 => ⟨Nat.zero_le _, fun b2 hb2 => ⟨Nat.zero_le _, fun b3 hb3 => ⟨by show 3 <= sizeLine; decide, fun b4 hb4 => ⟨by show 1 <= sizeLine; decide, fun l5 hl5 => ⟨by show 2 <= sizeLine; decide, fun t6 ht6 => ?_⟩⟩⟩⟩⟩⟩
      have q1 := Same.new (o := HO.tup []) hb1
      have q2 := Same.new (o := HO.tup []) hb2
      have q3 := Same.new (o := HO.tup []) hb3
      have q4 := Same.new (o := HO.tup [.ref b1, .ref b2, .ref b3]) hb4
      have q5 := Same.new (o := HO.lst [.ref b4]) hl5
      have q6 := Same.new (o := HO.tup [.ref p, .ref l5]) ht6
      have q56 := q5.trans q6
      have qq := q1.trans (q2.trans (q3.trans (q4.trans q56)))
      refine hZ _ _ _ ⟨_, rfl⟩ ⟨sm.trans (r3.trans qq), by rw [List.length_append, yl]; rfl, fun w hw l hl => ?_⟩ (by simp)
      rcases List.mem_append.mp hw with z | z
      · exact (yw w z l ((r3.trans qq).free hl)).smz (.of (r3.trans qq))
      · rw [List.mem_singleton.mp z]
        refine ⟨t6, p, l5, [(kk (0, 0), .int 1)], [.ref b4], rfl, upd_same, .inl (qq _ _ hp3), TabIs.nil.put (0, 0, 1), fun x hx => ⟨(0, 0, 1), List.mem_cons_self, by rw [List.mem_singleton.mp hx]; rfl⟩, q6 _ _ upd_same, .cons (LeafAt.mk (q56 _ _ upd_same) (q56 _ _ (q4 _ _ (q3 _ _ (q2 _ _ upd_same)))) (q56 _ _ (q4 _ _ (q3 _ _ upd_same))) (q56 _ _ (q4 _ _ upd_same))) .nil, fun z => ?_⟩
        have g := q6 l5 _ upd_same
        subst z
        rw [hl] at g
        cases g
    rintro ys H2 ⟨sm, yl, yw⟩ l hl
    rw [List.length_map, asl] at yl
    have s3 := Same.new (o := HO.lst ys) hl
    have t0 : DuS H (upd H2 l (.lst ys)) l ys (trT P first) P.length P.length := ⟨.of (sm.trans s3), sm.free hl, upd_same, yl, fun i w hw => by
      have il := (List.getElem?_eq_some_iff.mp hw).1
      rw [if_neg (by omega)]
      exact (yw w (List.mem_of_getElem? hw) l hl).smz (.of s3)⟩
    generalize upd H2 l (.lst ys) = H3 at t0 ⊢
    refine hM _ _ ?_
    clear hM M
    try dsimp only [List.set]
    refine seq_abs fun M hM => ?_
    refine ⟨_, rfl, pl, _, rfl, .inl (SqL.of (t0.sm.lst hpl)), P.length, by rw [List.length_map, asl], by omega, ?_⟩
    refine for_rangeC (fun i σ H' => (∃ u3 u4 u5 u6 u7 u8 u9 ua ub uc ud, σ = [some (.ref pl), some (.int first), some (.ref l), u3, u4, u5, u6, u7, u8, u9, ua, ub, uc, ud]) /\ ∃ ws, DuS H H' l ws (trT P first) P.length (P.length - i)) ⟨⟨_, _, _, _, _, _, _, _, _, _, _, rfl⟩, ys, t0⟩ ?_ ?_
    · rintro i σ H4 il ⟨⟨u3, u4, u5, u6, u7, u8, u9, ua, ub, uc, ud, rfl⟩, ws, t⟩
      obtain ⟨qn, e1, e2, ql⟩ : ∃ qn : Nat, P.length - i = qn + 1 /\ P.length - (i + 1) = qn /\ qn < P.length := ⟨P.length - (i + 1), by omega, rfl, by omega⟩
      have eq : (P.length : Int) - 1 + (i : Int) * -1 = (qn : Int) := by omega
      rw [eq]
      rw [e1] at t
      obtain ⟨e, he⟩ : ∃ e, P[qn]? = some e := ⟨_, List.getElem?_eq_getElem ql⟩
      obtain ⟨ra, hra⟩ : ∃ ra, as[qn]? = some ra := ⟨_, List.getElem?_eq_getElem (by omega)⟩
      have hrow := t.sm.lst (hrows qn ra e hra he)
      have hpl4 := t.sm.lst hpl
      have wl := t.len
      have n0 : 0 < P.length := by omega
      have TI := tr_is ok first he
      obtain ⟨_, _, k4⟩ := ok.dd qn e he
      have tok := fun {b : Nat} (hb : b < P.length) => tr_ok ok s41 first hb
      have ch : ∀ b, qn < b -> b < P.length -> ∃ w, atI ws (b : Int) = some w /\ DuE l H4 w (trT P first b) := fun b h1 h2 => by
        obtain ⟨w, hw⟩ : ∃ w, ws[b]? = some w := ⟨_, List.getElem?_eq_getElem (by omega)⟩
        refine ⟨w, atI_nat hw, ?_⟩
        have := t.st b w hw
        rw [if_pos (by omega)] at this
        exact this
      have lup : ∀ b, b < P.length -> ∀ x ∈ lvs (trT P first b), Up3 x /\ Len3 29 x := fun b hb x hx => by
        have h1 := (tok hb).1
        obtain ⟨h2, h3, h4, h5⟩ := lvs_up _ x hx
        exact ⟨h2, by omega, by omega, by omega⟩
      have setq : ixN ws.length (qn : Int) = some qn := ixN_nat (by omega)
      dsimp only [gName, List.set]
      refine seq_abs fun M hM => ?_
      refine ⟨_, rfl, _, rfl, pl, _, _, _, rfl, rfl, SqL.of hpl4, atI_nat (v := .ref ra) (by rw [List.getElem?_map, hra]; rfl), ra, _, rfl, SqL.of hrow, rfl, _, _, rfl, _, _, rfl, _, _, rfl, _, _, rfl, rfl, hM _ _ ?_⟩
      clear hM M
      try dsimp only [List.set]
      refine seq_abs fun M hM => ?_
      refine ⟨_, rfl, _, rfl, _, _, rfl, rfl, hM _ _ ?_⟩
      clear hM M
      try dsimp only [List.set]
      have c0 : decide (V.str (kStr e.k) = V.str "end") = decide (e.k = 0) := kEq (b := 0) k4 (by omega)
      have c1 : decide (V.str (kStr e.k) = V.str "curl") = decide (e.k = 1) := kEq (b := 1) k4 (by omega)
      have c2 : decide (V.str (kStr e.k) = V.str "bridge") = decide (e.k = 2) := kEq (b := 2) k4 (by omega)
      have c3 : decide (V.str (kStr e.k) = V.str "fork") = decide (e.k = 3) := kEq (b := 3) k4 (by omega)
      refine ⟨_, rfl, rfl, _, rfl, ?_⟩
      rw [c1]
      by_cases k1 : e.k = 1
      · rw [decide_eq_true k1]
        refine iteT ?_
        obtain ⟨hb, ⟨x, hx, _⟩, _⟩ := ok.kid qn e he (by omega)
        have bl := (List.getElem?_eq_some_iff.mp hx).1
        obtain ⟨w, aw, c, d, l', kvs, xs, rfl, hc, dz, tab, kf, hl', hxs, nl⟩ := ch e.b hb bl
        have tk := tok bl
        refine seq_abs fun M hM => ?_
        refine ⟨_, rfl, _, rfl, l, _, _, _, rfl, rfl, SqL.of t.hl, aw, c, _, rfl, SqT.of hc, rfl, _, _, rfl, _, _, rfl, rfl, hM _ _ ?_⟩
        clear hM M
        try dsimp only [List.set]
        refine ⟨_, rfl, d, kvs, _, 0, 1, rfl, dz, tab, kf, by omega, fun p kv H5 z5 hp tb kb => ?_⟩
        refine ⟨_, rfl, _, rfl, .ref l', _, _, rfl, ⟨l', xs, rfl, z5.lst hl', leafs_smz hxs z5⟩, by omega, fun x hx => ?_, fun u H6 s6 lu => ?_⟩
        · obtain ⟨h2, h3, h4, h5⟩ := lup e.b bl x hx
          exact ⟨h2, by omega, by omega, by omega⟩
        obtain ⟨l6, x6, rfl, hl6, hx6⟩ := lu
        refine ⟨by show 2 <= sizeLine; decide, fun t7 ht7 => ?_⟩
        have s7 := Same.new (o := HO.tup [.ref p, .ref l6]) ht7
        have z7 : SmZ H4 (upd H6 t7 (.tup [.ref p, .ref l6])) := z5.trans (.of (s6.trans s7))
        have ne6 := t.ne n0 (z5.trans (.of s6)) hl6 hx6 (by rw [List.length_map]; exact lvs_ne _)
        refine ⟨_, rfl, _, rfl, l, _, _, _, rfl, rfl, z7.lst t.hl, setq, ?_⟩
        refine ⟨⟨_, _, _, _, _, _, _, _, _, _, _, rfl⟩, ws.set qn (.ref t7), ?_⟩
        rw [e2]
        refine t.put ql z7 ?_
        rw [TI.k1 k1]
        exact ⟨t7, p, l6, kv, x6, rfl, upd_same, .inl (s7 _ _ (s6 _ _ hp)), tb, kb, s7 _ _ hl6, leafs_same hx6 s7, ne6⟩
      rw [decide_eq_false k1]
      refine iteF ⟨_, rfl, rfl, _, rfl, ?_⟩
      rw [c2]
      by_cases k2 : e.k = 2
      · rw [decide_eq_true k2]
        refine iteT ?_
        obtain ⟨hb, ⟨x, hx, _⟩, _⟩ := ok.kid qn e he (by omega)
        have bl := (List.getElem?_eq_some_iff.mp hx).1
        obtain ⟨w, aw, c, d, l', kvs, xs, rfl, hc, dz, tab, kf, hl', hxs, nl⟩ := ch e.b hb bl
        have tk := tok bl
        refine seq_abs fun M hM => ?_
        refine ⟨_, rfl, _, rfl, l, _, _, _, rfl, rfl, SqL.of t.hl, aw, c, _, rfl, SqT.of hc, rfl, _, _, rfl, _, _, rfl, rfl, hM _ _ ?_⟩
        clear hM M
        try dsimp only [List.set]
        refine seq_abs fun M hM => ?_
        refine ⟨_, rfl, _, rfl, .ref l', _, _, rfl, ⟨l', xs, rfl, hl', hxs⟩, by omega, fun x hx => ?_, fun u H5 s5 lu => hM _ _ ?_⟩
        · obtain ⟨h2, h3, h4, h5⟩ := lup e.b bl x hx
          exact ⟨h2, by omega, by omega, by omega⟩
        clear hM M
        try dsimp only [List.set]
        obtain ⟨l5, x5, rfl, hl5, hx5⟩ := lu
        refine ⟨_, rfl, d, kvs, _, 1, 0, rfl, (SmZ.of s5).dz dz, tab, kf, by omega, fun p kv H6 z6 hp tb kb => ?_⟩
        refine ⟨_, rfl, _, rfl, .ref l5, _, _, rfl, ⟨l5, x5, rfl, z6.lst hl5, leafs_smz hx5 z6⟩, by rw [List.length_map]; omega, fun x hx => ?_, fun u H7 s7 lu => ?_⟩
        · obtain ⟨y, hy, rfl⟩ := List.mem_map.mp hx
          obtain ⟨⟨u1, u2, u3⟩, h3, h4, h5⟩ := lup e.b bl y hy
          refine ⟨⟨insI_up u1, u2, u3⟩, ?_, by show y.2.1.length <= 30; omega, by show y.2.2.length <= 30; omega⟩
          show (insI _ y.1).length <= 30
          rw [insI_len]
          omega
        obtain ⟨l7, x7, rfl, hl7, hx7⟩ := lu
        refine ⟨by show 2 <= sizeLine; decide, fun t8 ht8 => ?_⟩
        have s8 := Same.new (o := HO.tup [.ref p, .ref l7]) ht8
        have z7 : SmZ H4 H7 := (SmZ.of s5).trans (z6.trans (.of s7))
        have z8 : SmZ H4 (upd H7 t8 (.tup [.ref p, .ref l7])) := z7.trans (.of s8)
        have ne7 := t.ne n0 z7 hl7 hx7 (by rw [List.length_map, List.length_map]; exact lvs_ne _)
        refine ⟨_, rfl, _, rfl, l, _, _, _, rfl, rfl, z8.lst t.hl, setq, ?_⟩
        refine ⟨⟨_, _, _, _, _, _, _, _, _, _, _, rfl⟩, ws.set qn (.ref t8), ?_⟩
        rw [e2]
        refine t.put ql z8 ?_
        rw [TI.k2 k2]
        refine ⟨t8, p, l7, kv, x7, rfl, upd_same, .inl (s8 _ _ (s7 _ _ hp)), tb, kb, s8 _ _ hl7, ?_, ne7⟩
        rw [List.map_map] at hx7
        exact leafs_same hx7 s8
      rw [decide_eq_false k2]
      refine iteF ⟨_, rfl, rfl, _, rfl, ?_⟩
      rw [c0]
      by_cases k0 : e.k = 0
      · rw [decide_eq_true k0]
        refine iteF ⟨⟨_, _, _, _, _, _, _, _, _, _, _, rfl⟩, ws, ?_⟩
        rw [e2]
        exact t.skip (TI.k0 k0)
      rw [decide_eq_false k0]
      refine iteT ?_
      obtain ⟨hb, ⟨x, hx, _⟩, h3⟩ := ok.kid qn e he k0
      have bl := (List.getElem?_eq_some_iff.mp hx).1
      obtain ⟨w1, aw, cA, dA, lA, kA, xA, rfl, hcA, dzA, tabA, kfA, hlA, hxA, nlA⟩ := ch e.b hb bl
      obtain ⟨bo, bol, bog, bov, tq⟩ : ∃ bo : Nat, bo < P.length /\ qn < bo /\ ((e.b : Int) + if decide (V.str (kStr e.k) = V.str "fork") = true then 1 else 0) = (bo : Int) /\ trT P first qn = .frk (first + qn) (trT P first e.b) (trT P first bo) := by
        rw [c3]
        by_cases k3 : e.k = 3
        · obtain ⟨y, hy, _⟩ := h3 k3
          exact ⟨e.b + 1, (List.getElem?_eq_some_iff.mp hy).1, by omega, by rw [decide_eq_true k3, if_pos rfl]; omega, TI.k3 k3⟩
        · exact ⟨e.b, bl, hb, by rw [decide_eq_false k3, if_neg Bool.false_ne_true]; omega, TI.k4 (by omega)⟩
      obtain ⟨w2, aw2, cB, dB, lB', kB, xB, rfl, hcB, dzB, tabB, kfB, hlB, hxB, nlB⟩ := ch bo bog bol
      have tA := tok bl
      have tB := tok bol
      refine seq_abs fun M hM => ?_
      refine ⟨_, rfl, _, rfl, l, _, _, _, rfl, rfl, SqL.of t.hl, aw, hM _ _ ?_⟩
      clear hM M
      try dsimp only [List.set]
      refine seq_abs fun M hM => ?_
      refine ⟨_, rfl, _, rfl, _, rfl, rfl, _, rfl, _, _, rfl, rfl, l, _, _, .ref cB, rfl, rfl, SqL.of t.hl, (by rw [bov]; exact aw2), hM _ _ ?_⟩
      clear hM M
      try dsimp only [List.set]
      have sumL := tok ql
      have e4 : (trT P first qn).terms.length = (trT P first e.b).terms.length + (trT P first bo).terms.length := by
        rw [tq]
        exact List.length_append
      have neA : kA ≠ [] := fun z => by
        have h1 := congrArg List.length (lvs_terms (trT P first e.b))
        have h2 := lvs_ne (trT P first e.b)
        rw [List.length_map] at h1
        obtain ⟨y, hy⟩ : ∃ y, y ∈ (trT P first e.b).terms := List.exists_mem_of_length_pos (by omega)
        have := tabA.has y hy
        rw [z] at this
        cases this
      refine ⟨_, rfl, cA, _, _, _, rfl, rfl, SqT.of hcA, atI_nat (j := 0) rfl, _, rfl, cB, _, _, _, rfl, rfl, SqT.of hcB, atI_nat (j := 0) rfl, dA, dB, kA, kB, _, _, rfl, dzA, tabA, kfA, dzB, tabB, kfB, by omega, neA, tabA.hash fun y hy => ?_, fun p kv H5 z5 hp tb kb => ?_⟩
      · obtain ⟨u, hu, eu⟩ := kfA y hy
        obtain ⟨h1, h2, h3, _⟩ := (trT P first e.b).terms_in u hu
        exact ⟨u.1.toNat, u.2.1.toNat, by rw [eu, Int.toNat_of_nonneg h1, Int.toNat_of_nonneg h2]; rfl, by omega⟩
      refine ⟨_, rfl, cA, _, _, _, rfl, rfl, SqT.of (z5.tup hcA), atI_nat (j := 1) rfl, _, rfl, cB, _, _, _, rfl, rfl, SqT.of (z5.tup hcB), atI_nat (j := 1) rfl, _, rfl, .ref lB', _, _, rfl, ⟨lB', xB, rfl, z5.lst hlB, leafs_smz hxB z5⟩, by omega, fun x hx => ?_, fun u H6 s6 lu => ?_⟩
      · obtain ⟨h2, h3, h4, h5⟩ := lup bo bol x hx
        exact ⟨h2, by omega, by omega, by omega⟩
      obtain ⟨l6, x6, rfl, hl6, hx6⟩ := lu
      have z6 : SmZ H4 H6 := z5.trans (.of s6)
      have lenA : xA.length = (lvs (trT P first e.b)).length := Paired.length hxA
      have len6 : x6.length = (lvs (trT P first bo)).length := by rw [Paired.length hx6, List.length_map]
      refine ⟨lA, l6, xA, x6, rfl, rfl, z6.lst hlA, hl6, Nat.le_of_lt (natB (by omega)), fun p7 hp7 => ⟨by show 2 <= sizeLine; decide, fun t8 ht8 => ?_⟩⟩
      have s7 := Same.new (o := HO.lst (xA ++ x6)) hp7
      have s8 := Same.new (o := HO.tup [.ref p, .ref p7]) ht8
      have z8 : SmZ H4 (upd (upd H6 p7 (.lst (xA ++ x6))) t8 (.tup [.ref p, .ref p7])) := z6.trans (.of (s7.trans s8))
      have ne7 : p7 ≠ l := fun z => by rw [z, z6.lst t.hl] at hp7; cases hp7
      refine ⟨_, rfl, _, rfl, l, _, _, _, rfl, rfl, z8.lst t.hl, setq, ?_⟩
      refine ⟨⟨_, _, _, _, _, _, _, _, _, _, _, rfl⟩, ws.set qn (.ref t8), ?_⟩
      rw [e2]
      refine t.put ql z8 ?_
      rw [tq]
      exact ⟨t8, p, p7, kv, xA ++ x6, rfl, upd_same, .inl (s8 _ _ (s7 _ _ (s6 _ _ hp))), tb, kb, s8 _ _ upd_same, Paired.app (leafs_smz hxA z8) (leafs_same hx6 (s7.trans s8)), ne7⟩
    · rintro σ H4 ⟨⟨u3, u4, u5, u6, u7, u8, u9, ua, ub, uc, ud, rfl⟩, ws, t⟩
      refine hM _ _ ⟨_, rfl, q _ _ t.sm ⟨l, ws, rfl, t.hl, t.len, fun i w hw => ?_⟩⟩
      have := t.st i w hw
      rw [Nat.sub_self, if_pos (Nat.zero_le _)] at this
      exact this
end
open PySem.W (kitOne)
structure TyK (K : W.Frag) (C CS CE CC CB CF : Addr) (k : Nat) : Prop where
  ha : PySem.W.findIn K (.ref C) "__class__" = some (some (.builtin "object.__class__"))
  hm : PySem.W.mroIn K C (.type "object") = some true
  kS : kitOne K (.ref C) (.ref CS) = some true
  kE : kitOne K (.ref C) (.ref CE) = some (decide (k = 0))
  kC : kitOne K (.ref C) (.ref CC) = some (decide (k = 1))
  kB : kitOne K (.ref C) (.ref CB) = some (decide (k = 2))
  kF : kitOne K (.ref C) (.ref CF) = some (decide (k = 3))
structure StI (K : W.Frag) (mg : Str -> Option Value) (CS CE CC CB CF : Addr) : Prop where
  gS : mg "Step" = some (.ref CS)
  hn : PySem.W.specialIn K (.builtin "object.__class__") "__get__" = some (some (.builtin "getset_descriptor.__get__"))
  htk : PySem.W.takesIn K (.builtin "object.__class__") = some true
  tE : TyK K CE CS CE CC CB CF 0
  tC : TyK K CC CS CE CC CB CF 1
  tB : TyK K CB CS CE CC CB CF 2
  tF : TyK K CF CS CE CC CB CF 3
theorem step_ty {K : W.Frag} {mg : Str -> Option Value} {CS CE CC CB CF : Addr} (T : StK K mg CE CC CB CF) (I : StI K mg CS CE CC CB CF) {H : Hp} : ∀ {S : Stp} {v : V}, StepAt CE CC CB CF H S v -> ∃ t, TyOf K H v t /\ kitOne K t (.ref CS) = some true /\ kitOne K t (.ref CE) = some (decide (S.hd = 0)) /\ kitOne K t (.ref CC) = some (decide (S.hd = 1)) /\ kitOne K t (.ref CB) = some (decide (S.hd = 2)) /\ kitOne K t (.ref CF) = some (decide (S.hd = 3))
  | .fin, _, ⟨_, _, rfl, h⟩ => ⟨_, .ins h T.clE I.tE.ha I.hn I.htk I.tE.hm, I.tE.kS, I.tE.kE, I.tE.kC, I.tE.kB, I.tE.kF⟩
  | .curl _ _, _, ⟨_, _, _, rfl, h, _⟩ => ⟨_, .ins h T.clC I.tC.ha I.hn I.htk I.tC.hm, I.tC.kS, I.tC.kE, I.tC.kC, I.tC.kB, I.tC.kF⟩
  | .bri _ _, _, ⟨_, _, _, rfl, h, _⟩ => ⟨_, .ins h T.clB I.tB.ha I.hn I.htk I.tB.hm, I.tB.kS, I.tB.kE, I.tB.kC, I.tB.kB, I.tB.kF⟩
  | .frk _ _ _, _, ⟨_, _, _, _, rfl, h, _⟩ => ⟨_, .ins h T.clF I.tF.ha I.hn I.htk I.tF.hm, I.tF.kS, I.tF.kE, I.tF.kC, I.tF.kB, I.tF.kF⟩
theorem kp_int (K : W.Frag) : PySem.W.kitOne K (.type "int") (.type "int") = some true := by first | rfl | decide +kernel
theorem kp_intb (K : W.Frag) : PySem.W.kitOne K (.type "int") (.type "bool") = some false := by first | rfl | decide +kernel
theorem kp_lst (K : W.Frag) : PySem.W.kitOne K (.type "list") (.type "list") = some true := by rfl
theorem hd3 : ∀ S : Stp, S.hd <= 3
  | .fin => by decide
  | .curl _ _ => by show 1 <= 3; decide
  | .bri _ _ => by show 2 <= 3; decide
  | .frk _ _ _ => by show 3 <= 3; decide
def spClass (CE CC CB CF : Addr) : Sp := fun vs H Q _ => ∃ (v : V) (S : Stp), vs = [v] /\ StepAt CE CC CB CF H S v /\ ∀ H', Same H H' -> Q (.str (kStr S.hd)) H'
def spLWhole : Sp := fun vs H Q _ => ∃ i : Int, vs = [.int i] /\ Q (.bl true) H
def bools (h : Nat) : List Bool := [decide (h = 0), decide (h = 1), decide (h = 2), decide (h = 3)]
theorem bl_no : ∀ (h m : Nat), h <= 3 -> m < h -> (bools h)[m]? = some false
  | 0, m, _, h => absurd h (Nat.not_lt_zero _)
  | 1, 0, _, _ => rfl
  | 1, m + 1, _, h => by omega
  | 2, 0, _, _ => rfl
  | 2, 1, _, _ => rfl
  | 2, m + 2, _, h => by omega
  | 3, 0, _, _ => rfl
  | 3, 1, _, _ => rfl
  | 3, 2, _, _ => rfl
  | 3, m + 3, _, h => by omega
  | n + 4, m, h, _ => by omega
section
variable {P : Program} {w : World} {K : W.Frag} {mg : Str -> Option Value} {base : Heap} {CS CE CC CB CF : Addr}
seal PSs PS PE PI PA PT PG
theorem scLWhole : FnScope ["_law_found"] ["_law_found"] (defScope sLWhole) := ⟨rfl, rfl, rfl, by decide +kernel, rfl, by decide +kernel, by decide +kernel⟩
theorem scClass : FnScope ["_law_step", "_law_kinds"] ["_law_step"] (defScope sClass) := ⟨rfl, rfl, rfl, by decide +kernel, rfl, by decide +kernel, by decide +kernel⟩
theorem d_class (T : Txt K mg) (TS : StK K mg CE CC CB CF) (I : StI K mg CS CE CC CB CF) (S : Src K mg "_law_class" sClass ["_law_step"]) : Def P w K mg base 1 "_law_class" ["_law_step"] (spClass CE CC CB CF) := by
  refine S.def scClass (fun vs H Q E h => ?_) (fun f cdv A outer s H vs Q E hr h => ?_)
  · obtain ⟨_, _, rfl, _⟩ := h; rfl
  · obtain ⟨v, S, rfl, hs, q⟩ := h
    refine ⟨_, pss_cons (ps_set (i := 1) scClass.nd rfl (Or.inl rfl) (pe_lst (pa_cons (pe_callB (call_isiK K) (by rfl) T.isi boot_isi (pa_cons (pv 0) (pa_cons (pe_glob (v := .ref CE) rfl TS.gE rfl) pa_nil))) (pa_cons (pe_callB (call_isiK K) (by rfl) T.isi boot_isi (pa_cons (pv 0) (pa_cons (pe_glob (v := .ref CC) rfl TS.gC rfl) pa_nil))) pa_nil))))
      (pss_cons (ps_set (i := 1) scClass.nd rfl (Or.inl rfl) (pe_op op_cat (pv 1) (pe_lst (pa_cons (pe_callB (call_isiK K) (by rfl) T.isi boot_isi (pa_cons (pv 0) (pa_cons (pe_glob (v := .ref CB) rfl TS.gB rfl) pa_nil))) (pa_cons (pe_callB (call_isiK K) (by rfl) T.isi boot_isi (pa_cons (pv 0) (pa_cons (pe_glob (v := .ref CF) rfl TS.gF rfl) pa_nil))) pa_nil)))))
      (pss_cons (ps_if (PW.pt (pw_or (pt_not (pt_val (pe_callB (call_isiK K) (by rfl) T.isi boot_isi (pa_cons (pv 0) (pa_cons (pe_glob (v := .ref CS) rfl I.gS rfl) pa_nil))))) (pw_or1 (pt_cmpR op_ne (pe_bm PySem.F.plainAttrs_list PySem.F.slot_list_count PySem.F.type_list_count mt_countB (pv 1) (pa_cons pe_bl pa_nil)) pe_int (nomark _))))) (pss_one (ps_ret pe_str)) pss_nil)
      (pss_one (ps_ret (pe_ix (ix_listK K) (pe_lst (pa_cons pe_str (pa_cons pe_str (pa_cons pe_str (pa_cons pe_str pa_nil))))) (pe_bm PySem.F.plainAttrs_list PySem.F.slot_list_index PySem.F.type_list_index mt_indexB (pv 1) (pa_cons pe_bl pa_nil)) (fun _ _ => rfl)))))), ?_⟩
    obtain ⟨t, ty, k0, k1, k2, k3, k4⟩ := step_ty TS I hs
    refine seq_abs fun M hM => ?_
    refine ⟨_, rfl, _, _, _, _, _, rfl, rfl, ty, k1, _, rfl, _, _, _, _, _, rfl, rfl, ty, k2, by show 2 <= sizeLine; decide, fun g1 hg1 => hM _ _ ?_⟩
    clear hM M
    try dsimp only [List.set]
    have s1 := Same.new (o := HO.lst [.bl (decide (S.hd = 0)), .bl (decide (S.hd = 1))]) hg1
    obtain ⟨t, ty, k0, k1, k2, k3, k4⟩ := step_ty TS I (hs.same s1)
    refine seq_abs fun M hM => ?_
    refine ⟨_, rfl, _, rfl, _, _, _, _, _, rfl, rfl, ty, k3, _, rfl, _, _, _, _, _, rfl, rfl, ty, k4, by show 2 <= sizeLine; decide, fun g2 hg2 => ?_⟩
    have s2 := Same.new (o := HO.lst [.bl (decide (S.hd = 2)), .bl (decide (S.hd = 3))]) hg2
    refine ⟨g1, g2, _, _, rfl, rfl, s2 _ _ upd_same, upd_same, by show 4 <= sizeLine; decide, fun g3 hg3 => hM _ _ ?_⟩
    clear hM M
    try dsimp only [List.set]
    have s3 := Same.new (o := HO.lst ((bools S.hd).map V.bl)) hg3
    have hg : (upd (upd (upd H g1 (.lst [.bl (decide (S.hd = 0)), .bl (decide (S.hd = 1))])) g2 (.lst [.bl (decide (S.hd = 2)), .bl (decide (S.hd = 3))])) g3 (.lst ((bools S.hd).map V.bl))) g3 = some (.lst ((bools S.hd).map V.bl)) := upd_same
    have s13 := s1.trans (s2.trans s3)
    have hv : ∀ (F : Hp -> Prop), F (upd (upd (upd H g1 (.lst [.bl (decide (S.hd = 0)), .bl (decide (S.hd = 1))])) g2 (.lst [.bl (decide (S.hd = 2)), .bl (decide (S.hd = 3))])) g3 (.lst ((bools S.hd).map V.bl))) -> F (upd (upd (upd H g1 (.lst [.bl (decide (S.hd = 0)), .bl (decide (S.hd = 1))])) g2 (.lst [.bl (decide (S.hd = 2)), .bl (decide (S.hd = 3))])) g3 (.lst ([.bl (decide (S.hd = 0)), .bl (decide (S.hd = 1))] ++ [.bl (decide (S.hd = 2)), .bl (decide (S.hd = 3))]))) := fun F h => h
    refine hv _ ?_
    generalize upd (upd (upd H g1 (.lst [.bl (decide (S.hd = 0)), .bl (decide (S.hd = 1))])) g2 (.lst [.bl (decide (S.hd = 2)), .bl (decide (S.hd = 3))])) g3 (.lst ((bools S.hd).map V.bl)) = H3 at hg s13 ⊢
    obtain ⟨t, ty, k0, k1, k2, k3, k4⟩ := step_ty TS I (hs.same s13)
    have h3 := hd3 S
    have cnt : (bools S.hd).count true = 1 := by
      match S.hd, h3 with
      | 0, _ => rfl
      | 1, _ => rfl
      | 2, _ => rfl
      | 3, _ => rfl
      | n + 4, h => omega
    refine seq_abs fun M hM => ?_
    refine ⟨_, rfl, _, _, _, _, _, rfl, rfl, ty, k0, _, rfl, iteF ?_⟩
    refine ⟨_, rfl, .inl ⟨rfl, _, SqL.of hg⟩, g3, _, rfl, rfl, hg, rfl, _, rfl, ?_⟩
    rw [cnt]
    refine iteF (hM _ _ ?_)
    clear hM M
    refine ⟨by show 4 <= sizeLine; decide, fun z hz => ?_⟩
    have s4 := Same.new (o := HO.lst [.str "end", .str "curl", .str "bridge", .str "fork"]) hz
    refine ⟨_, rfl, .inl ⟨rfl, _, SqL.of (s4 _ _ hg)⟩, g3, bools S.hd, S.hd, rfl, rfl, s4 _ _ hg, by show 4 <= 1000; decide, ?_, ?_, z, _, _, .str (kStr S.hd), rfl, rfl, SqL.of upd_same, ?_, q _ (s13.trans s4)⟩
    · match S.hd, h3 with
      | 0, _ => rfl
      | 1, _ => rfl
      | 2, _ => rfl
      | 3, _ => rfl
      | n + 4, h => omega
    · exact fun m hm => bl_no S.hd m h3 hm
    · match S.hd, h3 with
      | 0, _ => exact atI_nat (j := 0) rfl
      | 1, _ => exact atI_nat (j := 1) rfl
      | 2, _ => exact atI_nat (j := 2) rfl
      | 3, _ => exact atI_nat (j := 3) rfl
      | n + 4, h => omega
theorem d_lwhole (T : Txt K mg) (S : Src K mg "_law_whole" sLWhole ["_law_found"]) : Def P w K mg base 1 "_law_whole" ["_law_found"] spLWhole := by
  refine S.def scLWhole (fun vs H Q E h => ?_) (fun f cdv A outer s H vs Q E hr h => ?_)
  · obtain ⟨_, rfl, _⟩ := h; rfl
  · obtain ⟨i, rfl, q⟩ := h
    refine ⟨_, pss_one (ps_ret (pe_and (pe_callB (call_isiK K) (by rfl) T.isi boot_isi (pa_cons (pv 0) (pa_cons (pe_bltn (v := .ty "int") rfl T.int boot_int' rfl) pa_nil))) (pe_one (pe_not (pe_callB (call_isiK K) (by rfl) T.isi boot_isi (pa_cons (pv 0) (pa_cons (pe_bltn (v := .ty "bool") rfl T.bool boot_bool' rfl) pa_nil))))))), ?_⟩
    exact ⟨_, rfl, _, _, _, _, _, rfl, rfl, .int _, kp_int K, _, rfl, iteT ⟨_, rfl, _, _, _, _, _, rfl, rfl, .int _, kp_intb K, _, rfl, q⟩⟩
end
theorem StepAt.smz {CE CC CB CF : Addr} {H H' : Hp} (s : SmZ H H') : ∀ {S : Stp} {v : V}, StepAt CE CC CB CF H S v -> StepAt CE CC CB CF H' S v
  | .fin, _, ⟨a, dx, e, h⟩ => ⟨a, dx, e, s.ins h⟩
  | .curl _ _, _, ⟨a, dx, r, e, h, z⟩ => ⟨a, dx, r, e, s.ins h, StepAt.smz s z⟩
  | .bri _ _, _, ⟨a, dx, r, e, h, z⟩ => ⟨a, dx, r, e, s.ins h, StepAt.smz s z⟩
  | .frk _ _ _, _, ⟨a, dx, r, u, e, h, z, y⟩ => ⟨a, dx, r, u, e, s.ins h, StepAt.smz s z, StepAt.smz s y⟩
def spGood (CE CC CB CF : Addr) : Sp := fun vs H Q _ => ∃ (v dv : V) (k : Nat) (S : Stp) (l : Addr), vs = [v, .str (kStr k), dv] /\ k <= 4 /\ (if k = 4 then 3 else k) = S.hd /\ StepAt CE CC CB CF H S v /\ DuE l H dv S /\ S.deep <= 28 /\ (lvs S).length <= 164 /\ S.terms.length <= 164 /\ ∀ H', SmZ H H' -> Q (.bl true) H'
def TupI (H : Hp) (v : V) (l : List Int) : Prop := ∃ b, v = .ref b /\ H b = some (.tup (l.map V.int))
theorem tup_leaf {H : Hp} {b : Addr} {l : List Int} (h : H b = some (.tup (l.map V.int))) : TupI H (.ref b) l := ⟨b, rfl, h⟩
theorem same_tupA {K : W.Frag} {H : Hp} {v u : V} {l : List Int} (h1 : TupI H v l) (h2 : TupI H u l) : SameD K H 1 v u := by
  obtain ⟨a, rfl, ha⟩ := h1
  obtain ⟨b, rfl, hb⟩ := h2
  exact .tup (SqT.of ha) (SqT.of hb) rfl fun i y z f1 f2 => by
    rw [f1] at f2
    cases f2
    obtain ⟨k, _, rfl⟩ := get_int' f1
    exact .flat rfl
theorem same_leaf {K : W.Frag} {H : Hp} {v u : V} {x : Lf} (h1 : LeafAt H v x) (h2 : LeafAt H u x) : SameD K H 2 v u := by
  obtain ⟨a, p, q, r, rfl, a0, a1, a2, a3⟩ := h1.ex
  obtain ⟨b, p', q', r', rfl, b0, b1, b2, b3⟩ := h2.ex
  refine .tup (SqT.of a0) (SqT.of b0) rfl fun i y z f1 f2 => ?_
  match i, f1, f2 with
  | 0, f1, f2 => cases f1; cases f2; exact same_tupA (tup_leaf a1) (tup_leaf b1)
  | 1, f1, f2 => cases f1; cases f2; exact same_tupA (tup_leaf a2) (tup_leaf b2)
  | 2, f1, f2 => cases f1; cases f2; exact same_tupA (tup_leaf a3) (tup_leaf b3)
  | i + 3, f1, f2 => exact absurd f1 (by simp)
theorem same_leaves {K : W.Frag} {H : Hp} {a b : Addr} {xs ys : List V} {M : List Lf} (ha : H a = some (.lst xs)) (hb : H b = some (.lst ys)) (p1 : Paired (LeafAt H) xs M) (p2 : Paired (LeafAt H) ys M) {Q : VK} {out : Bool} (q : Q (.bl out) H) : rSame K out (.ref a) (.ref b) H Q := by
  have l1 := Paired.length p1
  have l2 := Paired.length p2
  refine ⟨a, b, xs, ys, 2, rfl, rfl, .inr ⟨SqL.of ha, SqL.of hb⟩, by lia, by decide, fun j x y f1 f2 => ?_, q⟩
  obtain ⟨q1, g1, h1⟩ := Paired.at p1 f1
  obtain ⟨q2, g2, h2⟩ := Paired.at p2 f2
  rw [g1] at g2
  cases g2
  exact same_leaf h1 h2
theorem sel_all : ∀ {es : List T3}, (∀ t ∈ es, t.2.2 ≠ 0) -> sel (es.map entK) = es
  | [], _ => rfl
  | t :: es, h => by
    have ih := sel_all (es := es) fun u hu => h u (List.mem_cons_of_mem _ hu)
    have h0 := h t List.mem_cons_self
    unfold sel at ih ⊢
    rw [List.map_cons, List.filterMap_cons, show selP (entK t) = some t from by unfold entK; rw [selP_kk, if_neg h0]; rfl, ih]
theorem repl_k {k : Nat} (h : k <= 4) : Txt.replace (kStr k) "both" "fork" = kStr (if k = 4 then 3 else k) := by
  match k, h with
  | 0, _ => decide +kernel
  | 1, _ => decide +kernel
  | 2, _ => decide +kernel
  | 3, _ => decide +kernel
  | 4, _ => decide +kernel
  | n + 5, h => omega
theorem kStr_len {k : Nat} : (kStr k).length <= 1000 := by
  match k with
  | 0 => decide +kernel
  | 1 => decide +kernel
  | 2 => decide +kernel
  | 3 => decide +kernel
  | n + 4 => show (("both" : Str)).length <= 1000; decide +kernel
section
variable {P : Program} {w : World} {K : W.Frag} {mg : Str -> Option Value} {base : Heap} {CE CC CB CF : Addr}
seal PSs PS PE PI PA PT PG
theorem scGood : FnScope ["_law_step", "_law_kind", "_law_due", "_law_terms", "_law_told"] ["_law_step", "_law_kind", "_law_due"] (defScope sGood) := ⟨rfl, rfl, rfl, by decide +kernel, rfl, by decide +kernel, by decide +kernel⟩
theorem ndPT : (["_law_powers", "_law_times"] : List Str).Nodup := by decide +kernel
theorem s_bf : (("both" : Str) == "fork") = false := by decide +kernel
theorem d_good (T : Txt K mg) (T4 : StK K mg CE CC CB CF) (O : PolyOk P w K mg base CE CC CB CF 28) (OL : LvOk P w K mg base CE CC CB CF 28) (OM : MyOk P w K mg base CE CC CB CF 28) (S : Src K mg "_law_good" sGood ["_law_step", "_law_kind", "_law_due"]) (DC : Def P w K mg base 1 "_law_class" ["_law_step"] (spClass CE CC CB CF)) (DW : Def P w K mg base 1 "_law_whole" ["_law_found"] spLWhole) : Def P w K mg base 33 "_law_good" ["_law_step", "_law_kind", "_law_due"] (spGood CE CC CB CF) := by
  refine S.def scGood (fun vs H Q E h => ?_) (fun f cdv A outer s H vs Q E hr h => ?_)
  · obtain ⟨_, _, _, _, _, rfl, _⟩ := h; rfl
  · obtain ⟨v, dv, k, S, l, rfl, k4, hd, hs, ⟨c, d, l', kvs, xs, rfl, hc, dz, tab, kf, hl', hxs, nl⟩, d28, l164, t164, q⟩ := h
    have hr1 : Room 1 _ := hr.mono (by decide)
    have hr31 : Room (3 + 28) _ := hr.mono (by decide)
    refine ⟨_, pss_fresh (ps_set (i := 3) scGood.nd rfl (Or.inl rfl) (pe_callTy (call_tuple_ofK K) rfl T.tuple boot_tuple' (pa_cons (pe_callB call_sortedG (by rfl) T.sorted boot_sorted' (pa_cons (pe_comp (N' := ["_law_powers", "_law_times"]) (fr := [none, none]) (compOk_of (by rfl)) rfl (pi_ditemsE (pe_itemsE (pe_ix (ix_tupK K) (pv 2) pe_int (fun _ _ => rfl))))
          (g := gTup K 2 (gCons (gName 0) (gCons (gName 1) gNil))) (fun _ _ _ _ => pg_tupK K 2 rfl (pgs_cons (pg_name (i := 0) ndPT rfl (Or.inl rfl) (Or.inr rfl)) (pgs_cons (pg_name (i := 1) ndPT rfl (Or.inl rfl) (Or.inr rfl)) pgs_nil))) (fun _ _ _ _ => pifs_nil)
          (fun _ _ _ _ => pe_op (op_catAK K) (pv 0) (pe_tup (pa_cons (pv 1) pa_nil)))) pa_nil)) pa_nil)))
        (fresh_asg (fresh_call1 (fresh_call1 (fresh_comp (fresh_meth fresh_sub)))))
      (pss1_cons (ps1_if (pt1_or (pt1_cmpR op_ne (pe_def DC hr1 rfl (pa_cons (pv 0) pa_nil)) (pe1_repl (pv 1) s_bf (by decide)) (nomark _)) (pw_or1 (pt_cmpR (op_neSK K (units66 hr)) (pe_methA (pv 0)) (pv 3) (nomark _)))) (pss_one (ps_ret pe_bl)) pss_nil)
      (pss_cons (ps_if (PW.pt (pw_or (pt_not (pt_val (pe_def DW hr1 rfl (pa_cons (pe_methA (pv 0)) pa_nil)))) (pw_or1 (pt_cmpR op_ne (pe_methA (pv 0)) (pe_callB (call_lenK K) (by rfl) T.len PySem.boot_len (pa_cons (pe_ix (ix_tupK K) (pv 2) pe_int (fun _ _ => rfl)) pa_nil)) (nomark _))))) (pss_one (ps_ret pe_bl)) pss_nil)
      (pss_cons (ps_set (i := 4) scGood.nd rfl (Or.inl rfl) (pe_methA (pv 0)))
      (pss_cons (ps_if (PW.pt (pw_or (pt_not (pt_val (pe_callB (call_isiK K) (by rfl) T.isi boot_isi (pa_cons (pv 4) (pa_cons (pe_bltn (v := .ty "list") rfl T.list boot_list' rfl) pa_nil))))) (pw_or1 (pt_cmpR (op_neSK K (units66 hr)) (pv 4) (pe_callB (call_sortedN (units66 hr)) (by rfl) T.sorted boot_sorted' (pa_cons (pe_ix (ix_tupK K) (pv 2) pe_int (fun _ _ => rfl)) pa_nil)) (nomark _))))) (pss_one (ps_ret pe_bl)) pss_nil)
      (pss_cons (ps_expr (pe_bm0 PySem.F.plainAttrs_list PySem.F.slot_list_reverse PySem.F.type_list_reverse mt_reverse (pv 4)))
      (pss_cons (ps_expr (pe_bm PySem.F.plainAttrs_list PySem.F.slot_list_append PySem.F.type_list_append mt_append (pv 4) (pa_cons pe_non pa_nil)))
      (pss_one (ps_ret (pe_cmpR (op_eqSK K (units66 hr)) (pe_methA (pv 0)) (pe_callB (call_sortedN (units66 hr)) (by rfl) T.sorted boot_sorted' (pa_cons (pe_ix (ix_tupK K) (pv 2) pe_int (fun _ _ => rfl)) pa_nil)) (nomark _)))))))))), ?_⟩
    obtain ⟨es, rfl, h2, nd⟩ := tab.ents
    have el : es.length <= 164 := by have := tab.len; rw [List.length_map] at this; omega
    have pos : ∀ t ∈ es, t.2.2 ≠ 0 := fun t ht z => by
      obtain ⟨u, hu, eu⟩ := kf (entK t) (List.mem_map_of_mem ht)
      have c1 := h2 t ht
      have : 0 < coef S.terms (k3 u) := by
        have ge : ∀ ts : List T3, (∀ x ∈ ts, x.2.2 = 1) -> ∀ x ∈ ts, 0 < coef ts (k3 x) := by
          intro ts
          induction ts with
          | nil => exact fun _ _ z => (nomatch z)
          | cons y ts ih =>
            intro h1 x hx
            have b := (coef_le (fun z hz => h1 z (List.mem_cons_of_mem _ hz)) (k3 x)).1
            have y1 := h1 y List.mem_cons_self
            rw [coef_cons]
            rcases List.mem_cons.mp hx with rfl | hx
            · rw [if_pos rfl]; omega
            · have := ih (fun z hz => h1 z (List.mem_cons_of_mem _ hz)) x hx
              split <;> omega
        exact ge _ (fun x hx => (S.terms_in x hx).2.2.2) u hu
      rw [kk_inj (show kk (k3 t) = kk (k3 u) from eu)] at c1
      omega
    refine seq_abs fun M hM => ?_
    refine ⟨_, rfl, c, _, _, _, rfl, rfl, SqT.of hc, atI_nat (j := 0) rfl, d, _, rfl, dz, fun vw hvw => ?_⟩
    have s1 := Same.new (o := viewO vw d) hvw
    refine ⟨vw, d, _, rfl, upd_same, (SmZ.of s1).dz dz, fun o H2 e2 f2 => ?_⟩
    have z2 : SmZ H H2 := .walk dz e2 fun b hb u hu => by rw [f2 b hb]; exact s1 _ _ hu
    refine comp_di (fun σ => ∃ u v, σ = [u, v]) (fun i ys H' => Same H2 H' /\ Paired (TermAt H') ys (es.take i)) ⟨_, _, rfl⟩ ⟨Same.refl _, .nil⟩ (natB (by rw [List.length_map]; omega)) (fun i ys H' z => z.1 _ _ e2) ?_ ?_
    · rintro i Tp b key vv ys σ H4 N ek hT hb ⟨u, v, rfl⟩ ⟨sm4, hy⟩ hN
      rw [List.getElem?_map] at ek
      obtain ⟨t, et, ee⟩ := Option.map_eq_some_iff.mp ek
      injection ee with e4 e5
      subst e4 e5
      have s5 := Same.new (o := HO.tup [.ref b, .int t.2.2]) hT
      have hT5 : (upd H4 Tp (.tup [.ref b, .int t.2.2])) Tp = some (.tup [.ref b, .int t.2.2]) := upd_same
      have hb5 := key2 (s5 _ _ hb)
      have sm5 := sm4.trans s5
      have hy5 := terms_same hy s5
      generalize upd H4 Tp (.tup [.ref b, .int t.2.2]) = H5 at s5 hT5 hb5 sm5 hy5 ⊢
      refine ⟨Tp, _, rfl, SqT.of hT5, rfl, _, _, rfl, _, _, rfl, rfl, ?_⟩
      dsimp only [gName, List.set]
      refine yesT ⟨_, rfl, _, rfl, by show 1 <= sizeLine; decide, fun p1 hp1 => ?_⟩
      have t1 := Same.new (o := HO.tup [.int t.2.2]) hp1
      refine ⟨b, p1, _, _, rfl, rfl, t1 _ _ hb5, upd_same, by show 3 <= sizeLine; decide, fun p2 H6 s6 hp2 => ?_⟩
      refine hN _ _ _ ⟨_, _, rfl⟩ ⟨sm5.trans (t1.trans s6), ?_⟩ (by simp)
      rw [take_succ_of et]
      exact L2.Paired.snoc (terms_same hy5 (t1.trans s6)) ⟨p2, rfl, hp2⟩
    rintro ys H4 ⟨sm4, hy⟩ l9 hl9
    rw [List.length_map, List.take_length] at hy
    have s5 := Same.new (o := HO.lst ys) hl9
    have hl5 : (upd H4 l9 (.lst ys)) l9 = some (.lst ys) := upd_same
    have hy5 := terms_same hy s5
    have sm5 := sm4.trans s5
    generalize upd H4 l9 (.lst ys) = H5 at s5 hl5 hy5 sm5 ⊢
    have yl : ys.length = es.length := Paired.length hy
    have py : Paired (IntsAt H5) ys (es.map l3) := by
      have : ∀ {ys : List V} {us : List T3}, Paired (TermAt H5) ys us -> Paired (IntsAt H5) ys (us.map l3) := by
        intro ys us h
        induction h with
        | nil => exact .nil
        | cons r _ ih => exact .cons (let ⟨a, e1, e2⟩ := r; ⟨a, e1, e2⟩) ih
      exact this hy5
    refine ⟨l9, ys, _, rfl, SqL.of hl5, by omega, py, fun ks hks => ?_, fun l2 rs' kss' p1 p2 p3 hl2 => ?_⟩
    · obtain ⟨t, _, rfl⟩ := List.mem_map.mp hks
      intro z
      cases z
    obtain ⟨L, rfl, pL, ll⟩ := poly_sorted tab (by rw [sel_all pos]; exact p2) p3
    have s6 := Same.new (o := HO.lst rs') hl2
    refine ⟨l2, rs', rfl, .inl ⟨SqL.of upd_same, fun c9 hc9 => hM _ _ ?_⟩⟩
    clear hM M
    try dsimp only [List.set]
    have s7 := Same.new (o := HO.tup rs') hc9
    have pt : Paired (TermAt H5) rs' L := by
      have : ∀ {rs : List V} {us : List T3}, Paired (IntsAt H5) rs (us.map l3) -> Paired (TermAt H5) rs us := by
        intro rs us
        induction us generalizing rs with
        | nil => intro h; cases h; exact .nil
        | cons t us ih =>
          intro h
          rw [List.map_cons] at h
          cases h with
          | cons r t => exact .cons (let ⟨a, e1, e2⟩ := r; ⟨a, e1, e2⟩) (ih t)
      exact this p1
    have pa : PolyAt (upd (upd H5 l2 (.lst rs')) c9 (.tup rs')) (.ref c9) L := ⟨c9, rs', rfl, upd_same, terms_same pt (s6.trans s7)⟩
    have z7 : SmZ H (upd (upd H5 l2 (.lst rs')) c9 (.tup rs')) := z2.trans (.of (sm5.trans (s6.trans s7)))
    generalize upd (upd H5 l2 (.lst rs')) c9 (.tup rs') = H7 at pa z7 ⊢
    have hs7 := hs.smz z7
    have hc7 := z7.tup hc
    have hl7 := z7.lst hl'
    have hx7 := leafs_smz hxs z7
    have xl : xs.length = (lvs S).length := Paired.length hxs
    refine seq_abs fun M hM => ?_
    refine ⟨_, rfl, v, S, rfl, hs7, fun H8 s8 => ?_⟩
    refine ⟨_, rfl, kStr k, rfl, kStr_len, rfl, _, rfl, ?_⟩
    rw [repl_k k4, hd, decide_eq_true rfl]
    refine iteF ⟨_, rfl, ?_⟩
    refine meth_poly T4 O hr31 (hs7.same s8) d28 ⟨by decide, by omega⟩ fun pv L2 H9 s9 pi pl pk => ?_
    have eL : L2 = L := pi.uniq pL fun _ => rfl
    subst eL
    refine ⟨_, rfl, same_polyK pk ((pa.same (s8.trans s9)).K) ⟨_, rfl, iteF (hM _ _ ?_)⟩⟩
    clear hM M
    have s79 := s8.trans s9
    refine seq_abs fun M hM => ?_
    refine ⟨_, rfl, ?_⟩
    refine meth_my T4 OM hr31 (hs7.same s79) d28 ⟨by decide, by omega⟩ fun H10 s10 => ?_
    refine ⟨_, rfl, _, rfl, iteF ⟨_, rfl, ?_⟩⟩
    have s7a := s79.trans s10
    refine meth_my T4 OM hr31 (hs7.same s7a) d28 ⟨by decide, by omega⟩ fun H11 s11 => ?_
    have s7b := s7a.trans s11
    refine ⟨_, rfl, c, _, _, _, rfl, rfl, SqT.of (s7b _ _ hc7), atI_nat (j := 1) rfl, l', xs, rfl, .inl (SqL.of (s7b _ _ hl7)), rfl, _, rfl, ?_⟩
    rw [xl, decide_eq_true rfl]
    refine iteF (hM _ _ ?_)
    clear hM M
    refine seq_abs fun M hM => ?_
    refine ⟨_, rfl, ?_⟩
    refine meth_lv T4 OL hr31 (hs7.same s7b) d28 ⟨by decide, by omega⟩ fun l12 xs12 N H12 s12 f12 hl12 hx12 lv => hM _ _ ?_
    clear hM M
    try dsimp only [List.set]
    have s7c := s7b.trans s12
    refine seq_abs fun M hM => ?_
    refine ⟨_, rfl, _, _, _, _, _, rfl, rfl, .lst hl12, kp_lst K, _, rfl, iteF ?_⟩
    refine ⟨_, rfl, _, rfl, c, _, _, _, rfl, rfl, SqT.of (s7c _ _ hc7), atI_nat (j := 1) rfl, l', xs, _, rfl, SqL.of (s7c _ _ hl7), by omega, nest_map (leafs_same hx7 s7c), fun z hz => ?_, fun g rs L3 hP pm up hg => ?_⟩
    · obtain ⟨y, _, rfl⟩ := List.mem_map.mp hz
      exact fun e => nomatch e
    obtain ⟨M3, rfl, pM⟩ := sort_back pm
    have eM : M3 = N := LvIs.uniq (S := S) ⟨pM, up⟩ lv
    subst eM
    have s13 := Same.new (o := HO.lst rs) hg
    refine same_leaves (s13 _ _ hl12) upd_same (leafs_same hx12 s13) (leafs_same (nest_back hP) s13) ⟨_, rfl, iteF (hM _ _ ?_)⟩
    clear hM M
    have h13 := s13 _ _ hl12
    have s13b : Same H11 (upd H12 g (.lst rs)) := s12.trans s13
    generalize upd H12 g (.lst rs) = H13 at s13 h13 s13b ⊢
    have x12 : xs12.length = (lvs S).length := by rw [Paired.length hx12, lv.1.length_eq]
    refine seq_abs fun M hM => ?_
    refine ⟨_, rfl, .inl ⟨rfl, _, SqL.of h13⟩, l12, _, rfl, rfl, h13, hM _ _ ?_⟩
    clear hM M
    refine seq_abs fun M hM => ?_
    refine ⟨_, rfl, .inl ⟨rfl, _, SqL.of upd_same⟩, l12, _, _, rfl, rfl, upd_same, ?_, hM _ _ ?_⟩
    · rw [List.length_reverse]
      exact natB (by omega)
    clear hM M
    have s15 : Same H11 (upd (upd H13 l12 (.lst xs12.reverse)) l12 (.lst (xs12.reverse ++ [.non]))) := Same.put (Same.put s13b f12) f12
    generalize upd (upd H13 l12 (.lst xs12.reverse)) l12 (.lst (xs12.reverse ++ [.non])) = H15 at s15 ⊢
    have s7d := s7b.trans s15
    refine ⟨_, rfl, ?_⟩
    refine meth_lv T4 OL hr31 (hs7.same s7d) d28 ⟨by decide, by omega⟩ fun l16 xs16 N2 H16 s16 f16 hl16 hx16 lv2 => ?_
    have s7e := s7d.trans s16
    refine ⟨_, rfl, c, _, _, _, rfl, rfl, SqT.of (s7e _ _ hc7), atI_nat (j := 1) rfl, l', xs, _, rfl, SqL.of (s7e _ _ hl7), by omega, nest_map (leafs_same hx7 s7e), fun z hz => ?_, fun g2 rs2 L4 hP2 pm2 up2 hg2 => ?_⟩
    · obtain ⟨y, _, rfl⟩ := List.mem_map.mp hz
      exact fun e => nomatch e
    obtain ⟨M4, rfl, pM2⟩ := sort_back pm2
    have eM2 : M4 = N2 := LvIs.uniq (S := S) ⟨pM2, up2⟩ lv2
    subst eM2
    have s17 := Same.new (o := HO.lst rs2) hg2
    exact same_leaves (s17 _ _ hl16) upd_same (leafs_same hx16 s17) (leafs_same (nest_back hP2) s17) (q _ (z7.trans (.of (s7e.trans s17))))
end
def spAt (K : W.Frag) : Sp := fun vs H Q _ => ∃ (a : Addr) (ns : List Int) (k : Nat), vs = [.ref a, .int k] /\ SqL K H a (ns.map V.int) /\ Q (.int (ns.getD k 0)) H
section
variable {P : Program} {w : World} {K : W.Frag} {mg : Str -> Option Value} {base : Heap}
theorem scAt : FnScope ["_law_script", "_law_k"] ["_law_script", "_law_k"] (defScope sAt) := ⟨rfl, rfl, rfl, by decide +kernel, rfl, by decide +kernel, by decide +kernel⟩
theorem d_at (T : Txt K mg) (S : Src K mg "_law_at" sAt ["_law_script", "_law_k"]) : Def P w K mg base 1 "_law_at" ["_law_script", "_law_k"] (spAt K) := by
  refine S.def scAt (fun vs H Q E h => ?_) (fun f cdv A outer s H vs Q E hr h => ?_)
  · obtain ⟨_, _, _, rfl, _⟩ := h; rfl
  · obtain ⟨a, ns, k, rfl, hq, q⟩ := h
    refine ⟨_, pss_cons (ps_if (pt_cmpR op_lt (pv 1) (pe_callB (call_lenK K) (by rfl) T.len PySem.boot_len (pa_cons (pv 0) pa_nil)) (nomark _)) (pss_one (ps_ret (pe_ix (ix_listK K) (pv 0) (pv 1) (fun _ _ => rfl)))) pss_nil) (pss_one (ps_ret pe_int)), ?_⟩
    refine ⟨_, rfl, _, rfl, a, _, rfl, .inl hq, _, _, rfl, rfl, _, rfl, ?_⟩
    rw [List.length_map]
    by_cases h : k < ns.length
    · rw [decide_eq_true (show (k : Int) < (ns.length : Int) by lia)]
      refine iteT ⟨_, rfl, _, rfl, a, _, _, .int (ns.getD k 0), rfl, rfl, hq, atI_nat ?_, q⟩
      rw [List.getElem?_map, List.getD_eq_getElem?_getD]
      simp [h]
    · rw [decide_eq_false (show ¬ (k : Int) < (ns.length : Int) by lia)]
      refine iteF ?_
      rw [List.getD_eq_getElem?_getD, List.getElem?_eq_none (by lia)] at q
      exact q
end
theorem cut41 (ns : List Int) : ∃ ms : List Int, cutV (ns.map V.int) (some 1) (some 41) = ms.map V.int /\ ms.length <= 40 := by
  refine ⟨(ns.drop (HT.sIx (ns.map V.int).length 0 (some 1))).take (HT.sIx (ns.map V.int).length (ns.map V.int).length (some 41) - HT.sIx (ns.map V.int).length 0 (some 1)), ?_, ?_⟩
  · unfold cutV
    rw [List.map_take, List.map_drop]
  · have e1 := HT.sIx_nat (ns.map V.int).length 0 1
    have e2 := HT.sIx_nat (ns.map V.int).length (ns.map V.int).length 41
    rw [List.length_take, List.length_drop]
    rw [show (1 : Int) = ((1 : Nat) : Int) from rfl, show (41 : Int) = ((41 : Nat) : Int) from rfl, e1, e2]
    rw [List.length_map]
    omega
theorem MdAt.smz {CE CC CB CF : Addr} {H H' : Hp} {v : V} {n : Nat} {T : Nat -> Stp} (h : MdAt CE CC CB CF H v n T) (s : SmZ H H') : MdAt CE CC CB CF H' v n T := by
  obtain ⟨l, ws, e, h1, h2, h3⟩ := h
  exact ⟨l, ws, e, s.lst h1, h2, fun i w hw => (h3 i w hw).smz s⟩
theorem PlAt.smz {H H' : Hp} {v : V} {P : List Pe} (h : PlAt H v P) (s : SmZ H H') : PlAt H' v P := by
  obtain ⟨l, as, e, h1, h2, h3⟩ := h.ex
  exact ⟨l, as, e, s.lst h1, h2, fun i a x p q => s.lst (h3 i a x p q)⟩
theorem DuAt.smz {H H' : Hp} {v : V} {n : Nat} {T : Nat -> Stp} (h : DuAt H v n T) (s : SmZ H H') : DuAt H' v n T := by
  obtain ⟨l, ws, e, h1, h2, h3⟩ := h
  exact ⟨l, ws, e, s.lst h1, h2, fun i w hw => (h3 i w hw).smz s⟩
theorem SmZ.sq {K : W.Frag} {H H' : Hp} (s : SmZ H H') {a : Addr} {xs : List V} (h : SqL K H a xs) : SqL K H' a xs := by
  rcases h with h | h
  · rcases h with h | ⟨o, h⟩
    · exact .inl (.inl (s.lst h))
    · exact .inl (.inr ⟨o, s.keep h (fun _ z => nomatch z) (fun _ _ z => by cases z)⟩)
  · exact .inr h
theorem big59 : (0 : Int) < 10 ^ (59 : Int).toNat := by decide +kernel
theorem tr_hd {P : List Pe} {S : List Nat} (ok : PlanOk P S) (first : Int) {i : Nat} {e : Pe} (he : P[i]? = some e) : (if e.k = 4 then 3 else e.k) = (trT P first i).hd := by
  have T := tr_is ok first he
  obtain ⟨_, _, k4⟩ := ok.dd i e he
  by_cases k0 : e.k = 0
  · rw [T.k0 k0, k0]; rfl
  by_cases k1 : e.k = 1
  · rw [T.k1 k1, k1]; rfl
  by_cases k2 : e.k = 2
  · rw [T.k2 k2, k2]; rfl
  by_cases k3 : e.k = 3
  · rw [T.k3 k3, k3]; rfl
  · have k5 : e.k = 4 := by omega
    rw [T.k4 k5, k5]; rfl
def spLaw (K : W.Frag) : Sp := fun vs H Q _ => ∃ (a : Addr) (ns : List Int), vs = [.ref a] /\ SqL K H a (ns.map V.int) /\ ns.length <= 63 /\ ∀ H', Q (.bl true) H'
section
variable {P : Program} {w : World} {K : W.Frag} {mg : Str -> Option Value} {base : Heap} {CE CC CB CF : Addr}
seal PSs PS PE PI PA PT PG
theorem scLaw : FnScope ["_law_script", "_law_first", "_law_plan_here", "_law_made_here", "_law_dues_here", "_law_some", "_law_at_here", "_law_tie"] ["_law_script"] (defScope sLaw) := ⟨rfl, rfl, rfl, by decide +kernel, rfl, by decide +kernel, by decide +kernel⟩
theorem ok_law {f : Addr} {fd : FuncData} (F : Fun K "law" "law" sLaw f fd) (T : Txt K mg) (T4 : StK K mg CE CC CB CF) (DA : Def P w K mg base 1 "_law_at" ["_law_script", "_law_k"] (spAt K)) (DP : Def P w K mg base 1 "_law_plan" ["_law_cells"] (spPlan K)) (DM : Def P w K mg base 3 "_law_made" ["_law_plan_here", "_law_first", "_law_alike"] (spMadeS CE CC CB CF)) (DD : Def P w K mg base 2 "_law_dues" ["_law_plan_here", "_law_first"] spDues) (DG : Def P w K mg base 33 "_law_good" ["_law_step", "_law_kind", "_law_due"] (spGood CE CC CB CF)) (DW : Def P w K mg base 1 "_law_whole" ["_law_found"] spLWhole) : FnOk P w K mg base CX0 34 f fd ["_law_script"] (spLaw K) := by
  refine F.ok scLaw (fun vs H Q E h => ?_) (fun cdv A outer s H vs Q E hr h => ?_)
  · obtain ⟨a, ns, rfl, _⟩ := h; rfl
  · obtain ⟨a, ns, rfl, hq, hlen, q⟩ := h
    have hr1 : Room 1 _ := hr.mono (by decide)
    have hr2 : Room 2 _ := hr.mono (by decide)
    have hr3 : Room 3 _ := hr.mono (by decide)
    refine ⟨_, pss_cons (ps_set (i := 1) scLaw.nd rfl (Or.inl rfl) (pe_op op_mod (pe_op op_fdiv (pe_def DA hr1 rfl (pa_cons (pv 0) (pa_cons pe_int pa_nil))) pe_int) (pe_op op_pow pe_int pe_int)))
      (pss_cons (ps_set (i := 2) scLaw.nd rfl (Or.inl rfl) (pe_def DP hr1 rfl (pa_cons (pe_slice (sl_listK K) (pv 0) (po_some pe_int) (po_some pe_int)) pa_nil)))
      (pss_cons (ps_set (i := 3) scLaw.nd rfl (Or.inl rfl) (pe_def DM hr3 rfl (pa_cons (pv 2) (pa_cons (pv 1) (pa_cons (pe_cmpR op_eq (pe_op op_mod (pe_def DA hr1 rfl (pa_cons (pv 0) (pa_cons pe_int pa_nil))) pe_int) pe_int (nomark _)) pa_nil)))))
      (pss_cons (ps_set (i := 4) scLaw.nd rfl (Or.inl rfl) (pe_def DD hr2 rfl (pa_cons (pv 2) (pa_cons (pv 1) pa_nil))))
      (pss_cons (ps_set (i := 5) scLaw.nd rfl (Or.inl rfl) (pe_op op_mod (pe_op op_fdiv (pe_def DA hr1 rfl (pa_cons (pv 0) (pa_cons pe_int pa_nil))) pe_int) (pe_callB (call_lenK K) (by rfl) T.len PySem.boot_len (pa_cons (pv 2) pa_nil))))
      (pss_cons (ps_for PassesOwn.never rfl (pi_seqK K .l (pe_lst (pa_cons pe_int (pa_cons (pv 5) (pa_cons pe_int pa_nil))))) (pg_name (i := 6) scLaw.nd rfl (Or.inl rfl))
        (pss_one (ps_if (pt_not (pt_val (pe_def DG hr rfl (pa_cons (pe_ix (ix_listK K) (pv 3) (pv 6) (fun _ _ => rfl)) (pa_cons (pe_ix (ix_listK K) (pe_ix (ix_listK K) (pv 2) (pv 6) (fun _ _ => rfl)) pe_int (fun _ _ => rfl)) (pa_cons (pe_ix (ix_listK K) (pv 4) (pv 6) (fun _ _ => rfl)) pa_nil)))))) (pss_one (ps_ret pe_bl)) pss_nil)))
      (pss_cons (ps_for PassesOwn.never rfl (pi_range1 rfl T.range (pa_cons (pe_callB (call_lenK K) (by rfl) T.len PySem.boot_len (pa_cons (pv 2) pa_nil)) pa_nil)) (pg_name (i := 6) scLaw.nd rfl (Or.inl rfl))
        (pss_one (ps_if (pt_cmpR op_ne (pe_ix (ix_listK K) (pe_ix (ix_listK K) (pv 2) (pv 6) (fun _ _ => rfl)) pe_int (fun _ _ => rfl)) pe_str (nomark _))
          (pss_cons (ps_set (i := 7) scLaw.nd rfl (Or.inl rfl) (pe_fld (pe_ix (ix_listK K) (pv 3) (pv 6) (fun _ _ => rfl)) rfl))
          (pss_one (ps_if (PW.pt (pw_or (pt_not (pt_val (pe_def DW hr1 rfl (pa_cons (pv 7) pa_nil)))) (pw_or1 (pt_cmpR op_ne (pv 7) (pe_op op_add (pv 1) (pv 6)) (nomark _))))) (pss_one (ps_ret pe_bl)) pss_nil))) pss_nil)))
      (pss_one (ps_ret pe_bl)))))))), ?_⟩
    refine seq_abs fun M hM => ?_
    refine ⟨_, rfl, a, ns, 0, rfl, hq, _, _, rfl, rfl, ⟨by decide, by decide⟩, _, _, rfl, rfl, ⟨by decide, by decide, by decide⟩, _, _, rfl, rfl, big59, hM _ _ ?_⟩
    clear hM M
    try dsimp only [List.set]
    generalize ns.getD 0 0 / 2 % 10 ^ (59 : Int).toNat = first
    refine seq_abs fun M hM => ?_
    obtain ⟨ms, em, ml⟩ := cut41 ns
    refine ⟨_, rfl, _, rfl, _, rfl, a, _, rfl, hq, fun p1 hp1 => ?_⟩
    have s1 := Same.new (o := HO.lst (cutV (ns.map V.int) (some 1) (some 41))) hp1
    refine ⟨p1, ms, rfl, SqL.of (by rw [upd_same, em]), ml, fun pv P S H2 s2 pa ok s41 p81 => hM _ _ ?_⟩
    clear hM M
    try dsimp only [List.set]
    have s12 := s1.trans s2
    have n0 := ok.n0
    refine seq_abs fun M hM => ?_
    refine ⟨_, rfl, _, rfl, _, rfl, a, ns, 0, rfl, s12.seq hq, _, _, rfl, rfl, (by show (0 : Int) < 2; decide), rfl, pv, P, S, first, _, rfl, pa, ok, p81, fun mv H3 s3 md => hM _ _ ?_⟩
    clear hM M
    try dsimp only [List.set]
    have pa3 := pa.same s3
    refine seq_abs fun M hM => ?_
    refine ⟨_, rfl, _, rfl, pv, P, S, first, rfl, pa3, ok, s41, p81, fun dv H4 z4 du => hM _ _ ?_⟩
    clear hM M
    try dsimp only [List.set]
    have pa4 := pa3.smz z4
    have md4 := md.smz z4
    have hq4 : SqL K H4 a (ns.map V.int) := z4.sq ((s12.trans s3).seq hq)
    clear pa pa3 md
    refine seq_abs fun M hM => ?_
    obtain ⟨pl, as, rfl, hpl, asl, hrows⟩ := id pa4.ex
    obtain ⟨so, eso, sol⟩ : ∃ so : Nat, ns.getD 1 0 / 7 % (((as.map V.ref).length : Nat) : Int) = (so : Int) /\ so < P.length := by
      rw [List.length_map, asl]
      have h1 := Int.emod_nonneg (ns.getD 1 0 / 7) (show (P.length : Int) ≠ 0 by omega)
      have h2 := Int.emod_lt_of_pos (ns.getD 1 0 / 7) (show 0 < (P.length : Int) by omega)
      exact ⟨(ns.getD 1 0 / 7 % (P.length : Int)).toNat, by omega, by omega⟩
    refine ⟨_, rfl, a, ns, 1, rfl, hq4, _, _, rfl, rfl, ⟨by decide, by decide⟩, _, rfl, pl, _, rfl, .inl (SqL.of hpl), _, _, rfl, rfl, ?_, hM _ _ ?_⟩
    · show (0 : Int) < _
      rw [List.length_map, asl]
      omega
    clear hM M
    try dsimp only [List.set]
    rw [eso]
    refine seq_abs fun M hM => ?_
    refine ⟨_, rfl, by show 3 <= sizeLine; decide, fun l3 hl3 => ?_⟩
    have s5 := Same.new (o := HO.lst [.int 0, .int (so : Int), .int 0]) hl3
    have g3 : (upd H4 l3 (.lst [.int 0, .int (so : Int), .int 0])) l3 = some (.lst [.int 0, .int (so : Int), .int 0]) := upd_same
    have pa5 := pa4.smz (.of s5)
    have md5 := md4.smz (.of s5)
    have du5 := du.smz (.of s5)
    generalize upd H4 l3 (.lst [.int 0, .int (so : Int), .int 0]) = H5 at s5 g3 pa5 md5 du5 ⊢
    refine ⟨l3, rfl, ⟨_, SqL.of g3⟩, for_seq (k := .l) (K := K) (a := l3) (xs := [.int 0, .int (so : Int), .int 0]) (fun i σ H' => (∃ u6 u7, σ = [some (.ref a), some (.int first), some (.ref pl), some mv, some dv, some (.int (so : Int)), u6, u7]) /\ SmZ H5 H') ⟨⟨_, _, rfl⟩, SmZ.refl _⟩ (fun i σ H' _ z => SqL.of (z.2.lst g3)) ?_ ?_⟩
    · rintro i x σ H6 hx ⟨⟨u6, u7, rfl⟩, z6⟩
      obtain ⟨b, rfl, bl⟩ : ∃ b : Nat, x = .int (b : Int) /\ b < P.length := by
        match i, hx with
        | 0, hx => cases hx; exact ⟨0, rfl, n0⟩
        | 1, hx => cases hx; exact ⟨so, rfl, sol⟩
        | 2, hx => cases hx; exact ⟨0, rfl, n0⟩
        | i + 3, hx => cases hx
      obtain ⟨ml', mws, rfl, hml, mwl, mst⟩ := md5.smz z6
      obtain ⟨dl, dws, rfl, hdl, dwl, dst⟩ := du5.smz z6
      obtain ⟨pl', as', epl, hpl6, asl6, hrows6⟩ := (pa5.smz z6).ex
      cases epl
      obtain ⟨e, he⟩ : ∃ e, P[b]? = some e := ⟨_, List.getElem?_eq_getElem bl⟩
      obtain ⟨ra, hra⟩ : ∃ ra, as'[b]? = some ra := ⟨_, List.getElem?_eq_getElem (by omega)⟩
      obtain ⟨mw, hmw⟩ : ∃ mw, mws[b]? = some mw := ⟨_, List.getElem?_eq_getElem (by omega)⟩
      obtain ⟨dw, hdw⟩ : ∃ dw, dws[b]? = some dw := ⟨_, List.getElem?_eq_getElem (by omega)⟩
      obtain ⟨_, _, k4⟩ := ok.dd b e he
      obtain ⟨t1, t2, t3⟩ := tr_ok ok s41 first bl
      dsimp only [gName, List.set]
      refine ⟨_, rfl, _, rfl, ml', _, _, _, rfl, rfl, SqL.of hml, atI_nat hmw, _, rfl, _, rfl, pl, _, _, _, rfl, rfl, SqL.of hpl6, atI_nat (v := .ref ra) (by rw [List.getElem?_map, hra]; rfl), ra, _, _, _, rfl, rfl, SqL.of (hrows6 b ra e hra he), atI_nat (j := 0) rfl, _, rfl, _, rfl, dl, _, _, _, rfl, rfl, SqL.of hdl, atI_nat hdw, mw, dw, e.k, trT P first b, dl, rfl, k4, tr_hd ok first he, mst b mw hmw, dst b dw hdw, t1, t2, t3, fun H7 z7 => ⟨_, rfl, iteF ⟨⟨_, _, rfl⟩, z6.trans z7⟩⟩⟩
    rintro σ H6 ⟨⟨u6, u7, rfl⟩, z6⟩
    refine hM _ _ ?_
    clear hM M
    have pa6 := pa5.smz z6
    have md6 := md5.smz z6
    refine seq_abs fun M hM => ?_
    obtain ⟨pl', as', epl, hpl6, asl6, hrows6⟩ := pa6.ex
    cases epl
    obtain ⟨ml', mws, rfl, hml, mwl, mst⟩ := md6
    refine ⟨_, rfl, pl, _, rfl, .inl (SqL.of hpl6), ((as'.map V.ref).length : Int), rfl, by omega, by rw [List.length_map]; omega, ?_⟩
    rw [Int.toNat_natCast, List.length_map, asl6]
    refine for_range (lo := 0) (n := P.length) (fun i σ H' => (∃ u6 u7, σ = [some (.ref a), some (.int first), some (.ref pl), some (.ref ml'), some dv, some (.int (so : Int)), u6, u7]) /\ H' = H6) ⟨⟨_, _, rfl⟩, rfl⟩ ?_ ?_
    · rintro b σ H7 bl ⟨⟨u6, u7, rfl⟩, rfl⟩
      rw [show (0 : Int) + (b : Int) = (b : Int) by omega]
      obtain ⟨e, he⟩ : ∃ e, P[b]? = some e := ⟨_, List.getElem?_eq_getElem bl⟩
      obtain ⟨ra, hra⟩ : ∃ ra, as'[b]? = some ra := ⟨_, List.getElem?_eq_getElem (by omega)⟩
      obtain ⟨mw, hmw⟩ : ∃ mw, mws[b]? = some mw := ⟨_, List.getElem?_eq_getElem (by omega)⟩
      have st := mst b mw hmw
      have TI := tr_is ok first he
      obtain ⟨_, _, k4⟩ := ok.dd b e he
      have c0 : decide (V.str (kStr e.k) = V.str "end") = decide (e.k = 0) := kEq (b := 0) k4 (by omega)
      dsimp only [gName, List.set]
      refine ⟨_, rfl, _, rfl, pl, _, _, _, rfl, rfl, SqL.of hpl6, atI_nat (v := .ref ra) (by rw [List.getElem?_map, hra]; rfl), ra, _, _, _, rfl, rfl, SqL.of (hrows6 b ra e hra he), atI_nat (j := 0) rfl, rfl, _, rfl, ?_⟩
      rw [c0]
      by_cases k0 : e.k = 0
      · rw [decide_eq_true k0]
        exact iteF ⟨⟨_, _, rfl⟩, rfl⟩
      rw [decide_eq_false k0]
      refine iteT ?_
      refine seq_abs fun M hM => ?_
      have go : M [some (.ref a), some (.int first), some (.ref pl), some (.ref ml'), some dv, some (.int (so : Int)), some (.int (b : Int)), some (.int (first + b))] H7 := hM _ _ (by
        refine ⟨_, rfl, _, rfl, _, rfl, iteF ?_⟩
        refine ⟨_, rfl, _, rfl, _, rfl, _, _, rfl, rfl, rfl, _, rfl, ?_⟩
        rw [decide_eq_true rfl]
        exact iteF ⟨⟨_, _, rfl⟩, rfl⟩)
      clear hM
      refine ⟨_, rfl, _, rfl, ml', _, _, _, rfl, rfl, SqL.of hml, atI_nat hmw, ?_⟩
      by_cases k1 : e.k = 1
      · rw [TI.k1 k1] at st
        obtain ⟨x, dx, r, rfl, hx, _⟩ := st
        exact ⟨x, CC, dx, _, _, rfl, hx, T4.clC, T4.c1, f2_tie _ _, go⟩
      by_cases k2 : e.k = 2
      · rw [TI.k2 k2] at st
        obtain ⟨x, dx, r, rfl, hx, _⟩ := st
        exact ⟨x, CB, dx, _, _, rfl, hx, T4.clB, T4.b1, f2_tie _ _, go⟩
      by_cases k3 : e.k = 3
      · rw [TI.k3 k3] at st
        obtain ⟨x, dx, r, u, rfl, hx, _⟩ := st
        exact ⟨x, CF, dx, _, _, rfl, hx, T4.clF, T4.x1, f3_tie _ _ _, go⟩
      · rw [TI.k4 (by omega)] at st
        obtain ⟨x, dx, r, u, rfl, hx, _⟩ := st
        exact ⟨x, CF, dx, _, _, rfl, hx, T4.clF, T4.x1, f3_tie _ _ _, go⟩
    · rintro σ H7 ⟨⟨u6, u7, rfl⟩, rfl⟩
      exact hM _ _ (q _)
end
def ty33 (K : W.Frag) (C CS CE CC CB CF : Addr) (k : Nat) : Bool := decide (PySem.W.mroIn K C (.type "object") = some true /\ PySem.W.kitOne K (.ref C) (.ref CS) = some true /\ PySem.W.kitOne K (.ref C) (.ref CE) = some (decide (k = 0)) /\ PySem.W.kitOne K (.ref C) (.ref CC) = some (decide (k = 1)) /\ PySem.W.kitOne K (.ref C) (.ref CB) = some (decide (k = 2)) /\ PySem.W.kitOne K (.ref C) (.ref CF) = some (decide (k = 3)))
theorem ty33_of {K : W.Frag} {C CS CE CC CB CF : Addr} {k : Nat} (ha : PySem.W.findIn K (.ref C) "__class__" = some (some (.builtin "object.__class__"))) (h : ty33 K C CS CE CC CB CF k = true) : TyK K C CS CE CC CB CF k := by
  have z := of_decide_eq_true h
  exact ⟨ha, z.1, z.2.1, z.2.2.1, z.2.2.2.1, z.2.2.2.2.1, z.2.2.2.2.2⟩
theorem src_mk {K : W.Frag} {h : Heap} {mg : Str -> Option Value} {x : Str} {st : Stmt} {f : Addr} {ps : List Str} {oc : Value} {od an : Option Addr} {osl : Array (Option Value)} {kV doc pm cdv ct : Value} (X : K.In h) (G : h.Ns mainGlobals mg)
    (a : PySem.W.nsIn K mainGlobals x = some (some (.ref f))) (l : K.lookup f = some ⟨oc, od, .func (PySem.W.fnOf x x (defArgs st) (defBody st) (defScope st) .none kV doc pm an cdv ct), osl⟩) (c : PySem.W.codeIn K cdv x = true) (k : PySem.W.keepIn K (.ref f) = true)
    (hb : ∀ (kV doc pm : Value) (an : Option Addr) (cdv ct : Value) (us : List Value), us.length = ps.length -> bindArgs (PySem.W.fnOf x x (defArgs st) (defBody st) (defScope st) .none kV doc pm an cdv ct) ⟨us, []⟩ = pure (ps.zip us)) : Src K mg x st ps :=
  ⟨_, _, fun_mk (st := st) l c k, (fun_mk (st := st) l c k).binds hb, PySem.W.mg_of X G a⟩
theorem lenC {p : List Value -> Prop} {n : Nat} (h : ∀ (a : Value) (us : List Value), us.length = n -> p (a :: us)) : ∀ us : List Value, us.length = n + 1 -> p us := fun us hl => by
  cases us with
  | nil => cases hl
  | cons a us => exact h a us (Nat.succ.inj hl)
theorem len0 {p : List Value -> Prop} (h : p []) : ∀ us : List Value, us.length = 0 -> p us := fun us hl => by
  rw [List.length_eq_zero_iff.mp hl]
  exact h
theorem len1 {p : List Value -> Prop} (h : ∀ a, p [a]) : ∀ us : List Value, us.length = 1 -> p us := lenC fun a => len0 (p := fun us => p (a :: us)) (h a)
theorem len2 {p : List Value -> Prop} (h : ∀ a b, p [a, b]) : ∀ us : List Value, us.length = 2 -> p us := lenC fun a => len1 (p := fun us => p (a :: us)) (h a)
theorem len3 {p : List Value -> Prop} (h : ∀ a b c, p [a, b, c]) : ∀ us : List Value, us.length = 3 -> p us := lenC fun a => len2 (p := fun us => p (a :: us)) (h a)
theorem len4 {p : List Value -> Prop} (h : ∀ a b c d, p [a, b, c, d]) : ∀ us : List Value, us.length = 4 -> p us := lenC fun a => len3 (p := fun us => p (a :: us)) (h a)
theorem all_mk {l : PySem.W.OpenLaw} {w : World} {K : W.Frag} {h : Heap} {mg : Str -> Option Value} {fa : Addr} (X : K.In h) (G : h.Ns mainGlobals mg) (hfa : mg "law" = some (.ref fa))
    {f0 : Addr} {od0 an0 : Option Addr} {sl0 : Array (Option Value)} {oc0 kV0 dc0 pm0 cd0 ct0 : Value}
    (a0 : PySem.W.nsIn K mainGlobals "gathered" = some (some (.ref f0))) (l0 : K.lookup f0 = some ⟨oc0, od0, .func (PySem.W.fnOf "gathered" "gathered" (defArgs sGath) (defBody sGath) (defScope sGath) .none kV0 dc0 pm0 an0 cd0 ct0), sl0⟩) (c0 : PySem.W.codeIn K cd0 "gathered" = true) (k0 : PySem.W.keepIn K (.ref f0) = true)
    {f1 : Addr} {od1 an1 : Option Addr} {sl1 : Array (Option Value)} {oc1 kV1 dc1 pm1 cd1 ct1 : Value}
    (a1 : PySem.W.nsIn K mainGlobals "sum_of" = some (some (.ref f1))) (l1 : K.lookup f1 = some ⟨oc1, od1, .func (PySem.W.fnOf "sum_of" "sum_of" (defArgs sSumOf) (defBody sSumOf) (defScope sSumOf) .none kV1 dc1 pm1 an1 cd1 ct1), sl1⟩) (c1 : PySem.W.codeIn K cd1 "sum_of" = true) (k1 : PySem.W.keepIn K (.ref f1) = true)
    {f2 : Addr} {od2 an2 : Option Addr} {sl2 : Array (Option Value)} {oc2 kV2 dc2 pm2 cd2 ct2 : Value}
    (a2 : PySem.W.nsIn K mainGlobals "product_of" = some (some (.ref f2))) (l2 : K.lookup f2 = some ⟨oc2, od2, .func (PySem.W.fnOf "product_of" "product_of" (defArgs sProd) (defBody sProd) (defScope sProd) .none kV2 dc2 pm2 an2 cd2 ct2), sl2⟩) (c2 : PySem.W.codeIn K cd2 "product_of" = true) (k2 : PySem.W.keepIn K (.ref f2) = true)
    {f3 : Addr} {od3 an3 : Option Addr} {sl3 : Array (Option Value)} {oc3 kV3 dc3 pm3 cd3 ct3 : Value}
    (a3 : PySem.W.nsIn K mainGlobals "with_tie" = some (some (.ref f3))) (l3 : K.lookup f3 = some ⟨oc3, od3, .func (PySem.W.fnOf "with_tie" "with_tie" (defArgs sWith) (defBody sWith) (defScope sWith) .none kV3 dc3 pm3 an3 cd3 ct3), sl3⟩) (c3 : PySem.W.codeIn K cd3 "with_tie" = true) (k3 : PySem.W.keepIn K (.ref f3) = true)
    {f4 : Addr} {od4 an4 : Option Addr} {sl4 : Array (Option Value)} {oc4 kV4 dc4 pm4 cd4 ct4 : Value}
    (a4 : PySem.W.nsIn K mainGlobals "_law_at" = some (some (.ref f4))) (l4 : K.lookup f4 = some ⟨oc4, od4, .func (PySem.W.fnOf "_law_at" "_law_at" (defArgs sAt) (defBody sAt) (defScope sAt) .none kV4 dc4 pm4 an4 cd4 ct4), sl4⟩) (c4 : PySem.W.codeIn K cd4 "_law_at" = true) (k4 : PySem.W.keepIn K (.ref f4) = true)
    {f5 : Addr} {od5 an5 : Option Addr} {sl5 : Array (Option Value)} {oc5 kV5 dc5 pm5 cd5 ct5 : Value}
    (a5 : PySem.W.nsIn K mainGlobals "_law_plan" = some (some (.ref f5))) (l5 : K.lookup f5 = some ⟨oc5, od5, .func (PySem.W.fnOf "_law_plan" "_law_plan" (defArgs sPlan) (defBody sPlan) (defScope sPlan) .none kV5 dc5 pm5 an5 cd5 ct5), sl5⟩) (c5 : PySem.W.codeIn K cd5 "_law_plan" = true) (k5 : PySem.W.keepIn K (.ref f5) = true)
    {f6 : Addr} {od6 an6 : Option Addr} {sl6 : Array (Option Value)} {oc6 kV6 dc6 pm6 cd6 ct6 : Value}
    (a6 : PySem.W.nsIn K mainGlobals "_law_made" = some (some (.ref f6))) (l6 : K.lookup f6 = some ⟨oc6, od6, .func (PySem.W.fnOf "_law_made" "_law_made" (defArgs sMadeS) (defBody sMadeS) (defScope sMadeS) .none kV6 dc6 pm6 an6 cd6 ct6), sl6⟩) (c6 : PySem.W.codeIn K cd6 "_law_made" = true) (k6 : PySem.W.keepIn K (.ref f6) = true)
    {f7 : Addr} {od7 an7 : Option Addr} {sl7 : Array (Option Value)} {oc7 kV7 dc7 pm7 cd7 ct7 : Value}
    (a7 : PySem.W.nsIn K mainGlobals "_law_sum" = some (some (.ref f7))) (l7 : K.lookup f7 = some ⟨oc7, od7, .func (PySem.W.fnOf "_law_sum" "_law_sum" (defArgs sSum) (defBody sSum) (defScope sSum) .none kV7 dc7 pm7 an7 cd7 ct7), sl7⟩) (c7 : PySem.W.codeIn K cd7 "_law_sum" = true) (k7 : PySem.W.keepIn K (.ref f7) = true)
    {f8 : Addr} {od8 an8 : Option Addr} {sl8 : Array (Option Value)} {oc8 kV8 dc8 pm8 cd8 ct8 : Value}
    (a8 : PySem.W.nsIn K mainGlobals "_law_raised" = some (some (.ref f8))) (l8 : K.lookup f8 = some ⟨oc8, od8, .func (PySem.W.fnOf "_law_raised" "_law_raised" (defArgs sRaised) (defBody sRaised) (defScope sRaised) .none kV8 dc8 pm8 an8 cd8 ct8), sl8⟩) (c8 : PySem.W.codeIn K cd8 "_law_raised" = true) (k8 : PySem.W.keepIn K (.ref f8) = true)
    {f9 : Addr} {od9 an9 : Option Addr} {sl9 : Array (Option Value)} {oc9 kV9 dc9 pm9 cd9 ct9 : Value}
    (a9 : PySem.W.nsIn K mainGlobals "_law_within" = some (some (.ref f9))) (l9 : K.lookup f9 = some ⟨oc9, od9, .func (PySem.W.fnOf "_law_within" "_law_within" (defArgs sLWithin) (defBody sLWithin) (defScope sLWithin) .none kV9 dc9 pm9 an9 cd9 ct9), sl9⟩) (c9 : PySem.W.codeIn K cd9 "_law_within" = true) (k9 : PySem.W.keepIn K (.ref f9) = true)
    {f10 : Addr} {od10 an10 : Option Addr} {sl10 : Array (Option Value)} {oc10 kV10 dc10 pm10 cd10 ct10 : Value}
    (a10 : PySem.W.nsIn K mainGlobals "_law_beyond" = some (some (.ref f10))) (l10 : K.lookup f10 = some ⟨oc10, od10, .func (PySem.W.fnOf "_law_beyond" "_law_beyond" (defArgs sLBeyond) (defBody sLBeyond) (defScope sLBeyond) .none kV10 dc10 pm10 an10 cd10 ct10), sl10⟩) (c10 : PySem.W.codeIn K cd10 "_law_beyond" = true) (k10 : PySem.W.keepIn K (.ref f10) = true)
    {f11 : Addr} {od11 an11 : Option Addr} {sl11 : Array (Option Value)} {oc11 kV11 dc11 pm11 cd11 ct11 : Value}
    (a11 : PySem.W.nsIn K mainGlobals "_law_inside" = some (some (.ref f11))) (l11 : K.lookup f11 = some ⟨oc11, od11, .func (PySem.W.fnOf "_law_inside" "_law_inside" (defArgs sLInside) (defBody sLInside) (defScope sLInside) .none kV11 dc11 pm11 an11 cd11 ct11), sl11⟩) (c11 : PySem.W.codeIn K cd11 "_law_inside" = true) (k11 : PySem.W.keepIn K (.ref f11) = true)
    {f12 : Addr} {od12 an12 : Option Addr} {sl12 : Array (Option Value)} {oc12 kV12 dc12 pm12 cd12 ct12 : Value}
    (a12 : PySem.W.nsIn K mainGlobals "_law_dues" = some (some (.ref f12))) (l12 : K.lookup f12 = some ⟨oc12, od12, .func (PySem.W.fnOf "_law_dues" "_law_dues" (defArgs sDues) (defBody sDues) (defScope sDues) .none kV12 dc12 pm12 an12 cd12 ct12), sl12⟩) (c12 : PySem.W.codeIn K cd12 "_law_dues" = true) (k12 : PySem.W.keepIn K (.ref f12) = true)
    {f13 : Addr} {od13 an13 : Option Addr} {sl13 : Array (Option Value)} {oc13 kV13 dc13 pm13 cd13 ct13 : Value}
    (a13 : PySem.W.nsIn K mainGlobals "_law_whole" = some (some (.ref f13))) (l13 : K.lookup f13 = some ⟨oc13, od13, .func (PySem.W.fnOf "_law_whole" "_law_whole" (defArgs sLWhole) (defBody sLWhole) (defScope sLWhole) .none kV13 dc13 pm13 an13 cd13 ct13), sl13⟩) (c13 : PySem.W.codeIn K cd13 "_law_whole" = true) (k13 : PySem.W.keepIn K (.ref f13) = true)
    {f14 : Addr} {od14 an14 : Option Addr} {sl14 : Array (Option Value)} {oc14 kV14 dc14 pm14 cd14 ct14 : Value}
    (a14 : PySem.W.nsIn K mainGlobals "_law_class" = some (some (.ref f14))) (l14 : K.lookup f14 = some ⟨oc14, od14, .func (PySem.W.fnOf "_law_class" "_law_class" (defArgs sClass) (defBody sClass) (defScope sClass) .none kV14 dc14 pm14 an14 cd14 ct14), sl14⟩) (c14 : PySem.W.codeIn K cd14 "_law_class" = true) (k14 : PySem.W.keepIn K (.ref f14) = true)
    {f15 : Addr} {od15 an15 : Option Addr} {sl15 : Array (Option Value)} {oc15 kV15 dc15 pm15 cd15 ct15 : Value}
    (a15 : PySem.W.nsIn K mainGlobals "_law_good" = some (some (.ref f15))) (l15 : K.lookup f15 = some ⟨oc15, od15, .func (PySem.W.fnOf "_law_good" "_law_good" (defArgs sGood) (defBody sGood) (defScope sGood) .none kV15 dc15 pm15 an15 cd15 ct15), sl15⟩) (c15 : PySem.W.codeIn K cd15 "_law_good" = true) (k15 : PySem.W.keepIn K (.ref f15) = true)
    {f16 : Addr} {od16 an16 : Option Addr} {sl16 : Array (Option Value)} {oc16 kV16 dc16 pm16 cd16 ct16 : Value}
    (a16 : PySem.W.nsIn K mainGlobals "law" = some (some (.ref f16))) (l16 : K.lookup f16 = some ⟨oc16, od16, .func (PySem.W.fnOf "law" "law" (defArgs sLaw) (defBody sLaw) (defScope sLaw) .none kV16 dc16 pm16 an16 cd16 ct16), sl16⟩) (c16 : PySem.W.codeIn K cd16 "law" = true) (k16 : PySem.W.keepIn K (.ref f16) = true)
    (z0 : PySem.W.nsIn K mainGlobals "isinstance" = some none)
    (z1 : PySem.W.nsIn K mainGlobals "int" = some none)
    (z2 : PySem.W.nsIn K mainGlobals "bool" = some none)
    (z3 : PySem.W.nsIn K mainGlobals "len" = some none)
    (z4 : PySem.W.nsIn K mainGlobals "tuple" = some none)
    (z5 : PySem.W.nsIn K mainGlobals "all" = some none)
    (z6 : PySem.W.nsIn K mainGlobals "list" = some none)
    (z7 : PySem.W.nsIn K mainGlobals "min" = some none)
    (z8 : PySem.W.nsIn K mainGlobals "max" = some none)
    (z9 : PySem.W.nsIn K mainGlobals "range" = some none)
    (z10 : PySem.W.nsIn K mainGlobals "set" = some none)
    (z11 : PySem.W.nsIn K mainGlobals "sorted" = some none)
    (z12 : PySem.W.nsIn K mainGlobals "reversed" = some none)
    (z13 : PySem.W.nsIn K mainGlobals "dict" = some none)
    {oa ob : Addr} {od oe : Option Addr} {on om : Nat} {os ou : Array (Option Value)} {o0 o1 o2 : Tok} (oo : PySem.W.nsIn K mainGlobals "ONE" = some (some (.ref oa)))
    (ol : K.lookup oa = some ⟨.type "tuple", od, .seq #[.ref ob] on, os⟩)
    (oq : K.lookup ob = some ⟨.type "tuple", oe, .seq #[.int 0 o0, .int 0 o1, .int 1 o2] om, ou⟩)
    {xa xb : Addr} {xd xe : Option Addr} {xn xm : Nat} {xs xu : Array (Option Value)} {x0 x1 x2 : Tok} (xo : PySem.W.nsIn K mainGlobals "X" = some (some (.ref xa)))
    (xl : K.lookup xa = some ⟨.type "tuple", xd, .seq #[.ref xb] xn, xs⟩)
    (xq : K.lookup xb = some ⟨.type "tuple", xe, .seq #[.int 1 x0, .int 0 x1, .int 1 x2] xm, xu⟩)
    {y_a y_b : Addr} {y_d y_e : Option Addr} {y_n y_m : Nat} {y_s y_u : Array (Option Value)} {y_0 y_1 y_2 : Tok} (y_o : PySem.W.nsIn K mainGlobals "Y" = some (some (.ref y_a)))
    (y_l : K.lookup y_a = some ⟨.type "tuple", y_d, .seq #[.ref y_b] y_n, y_s⟩)
    (y_q : K.lookup y_b = some ⟨.type "tuple", y_e, .seq #[.int 0 y_0, .int 1 y_1, .int 1 y_2] y_m, y_u⟩)
    {CE : Addr} (aCE : PySem.W.nsIn K mainGlobals "End" = some (some (.ref CE)))
    (pgE : PySem.W.plainGet K CE Str.empty = true)
    (hdE : PySem.W.hasDictIn K CE = true)
    (poE : PySem.W.plainOver K CE = true)
    (saE : PySem.W.findIn K (.ref CE) "__setattr__" = some (some (.builtin "object.__setattr__")))
    (mkE : PySem.W.makesIn K CE = true)
    (kcE : PySem.W.keepIn K (.ref CE) = true)
    (inE : PySem.W.findIn K (.ref CE) "__init__" = some (some (.builtin "object.__init__")))
    {fEP : Addr} {odEP anEP : Option Addr} {slEP : Array (Option Value)} {ocEP kVEP dcEP pmEP cdEP ctEP : Value} (aEP : PySem.W.findIn K (.ref CE) "poly" = some (some (.ref fEP)))
    (iEP : PySem.W.isFn K (.ref fEP) = true)
    (lEP : K.lookup fEP = some ⟨ocEP, odEP, .func (PySem.W.fnOf "poly" "End.poly" (defArgs sEPoly) (defBody sEPoly) (defScope sEPoly) .none kVEP dcEP pmEP anEP cdEP ctEP), slEP⟩)
    (cEP : PySem.W.codeIn K cdEP "End.poly" = true)
    (kEP : PySem.W.keepIn K (.ref fEP) = true)
    {fEL : Addr} {odEL anEL : Option Addr} {slEL : Array (Option Value)} {ocEL kVEL dcEL pmEL cdEL ctEL : Value} (aEL : PySem.W.findIn K (.ref CE) "leaves" = some (some (.ref fEL)))
    (iEL : PySem.W.isFn K (.ref fEL) = true)
    (lEL : K.lookup fEL = some ⟨ocEL, odEL, .func (PySem.W.fnOf "leaves" "End.leaves" (defArgs sELv) (defBody sELv) (defScope sELv) .none kVEL dcEL pmEL anEL cdEL ctEL), slEL⟩)
    (cEL : PySem.W.codeIn K cdEL "End.leaves" = true)
    (kEL : PySem.W.keepIn K (.ref fEL) = true)
    {fEM : Addr} {odEM anEM : Option Addr} {slEM : Array (Option Value)} {ocEM kVEM dcEM pmEM cdEM ctEM : Value} (aEM : PySem.W.findIn K (.ref CE) "many" = some (some (.ref fEM)))
    (iEM : PySem.W.isFn K (.ref fEM) = true)
    (lEM : K.lookup fEM = some ⟨ocEM, odEM, .func (PySem.W.fnOf "many" "End.many" (defArgs sEMany) (defBody sEMany) (defScope sEMany) .none kVEM dcEM pmEM anEM cdEM ctEM), slEM⟩)
    (cEM : PySem.W.codeIn K cdEM "End.many" = true)
    (kEM : PySem.W.keepIn K (.ref fEM) = true)
    {CC : Addr} (aCC : PySem.W.nsIn K mainGlobals "Curl" = some (some (.ref CC)))
    (pgC : PySem.W.plainGet K CC Str.empty = true)
    (hdC : PySem.W.hasDictIn K CC = true)
    (poC : PySem.W.plainOver K CC = true)
    (saC : PySem.W.findIn K (.ref CC) "__setattr__" = some (some (.builtin "object.__setattr__")))
    (mkC : PySem.W.makesIn K CC = true)
    (kcC : PySem.W.keepIn K (.ref CC) = true)
    {fCI : Addr} {odCI anCI : Option Addr} {slCI : Array (Option Value)} {ocCI kVCI dcCI pmCI cdCI ctCI : Value} (aCI : PySem.W.findIn K (.ref CC) "__init__" = some (some (.ref fCI)))
    (iCI : PySem.W.isFn K (.ref fCI) = true)
    (lCI : K.lookup fCI = some ⟨ocCI, odCI, .func (PySem.W.fnOf "__init__" "Curl.__init__" (defArgs sCInit) (defBody sCInit) (defScope sCInit) .none kVCI dcCI pmCI anCI cdCI ctCI), slCI⟩)
    (cCI : PySem.W.codeIn K cdCI "Curl.__init__" = true)
    (kCI : PySem.W.keepIn K (.ref fCI) = true)
    {fCP : Addr} {odCP anCP : Option Addr} {slCP : Array (Option Value)} {ocCP kVCP dcCP pmCP cdCP ctCP : Value} (aCP : PySem.W.findIn K (.ref CC) "poly" = some (some (.ref fCP)))
    (iCP : PySem.W.isFn K (.ref fCP) = true)
    (lCP : K.lookup fCP = some ⟨ocCP, odCP, .func (PySem.W.fnOf "poly" "Curl.poly" (defArgs sCPoly) (defBody sCPoly) (defScope sCPoly) .none kVCP dcCP pmCP anCP cdCP ctCP), slCP⟩)
    (cCP : PySem.W.codeIn K cdCP "Curl.poly" = true)
    (kCP : PySem.W.keepIn K (.ref fCP) = true)
    {fCL : Addr} {odCL anCL : Option Addr} {slCL : Array (Option Value)} {ocCL kVCL dcCL pmCL cdCL ctCL : Value} (aCL : PySem.W.findIn K (.ref CC) "leaves" = some (some (.ref fCL)))
    (iCL : PySem.W.isFn K (.ref fCL) = true)
    (lCL : K.lookup fCL = some ⟨ocCL, odCL, .func (PySem.W.fnOf "leaves" "Curl.leaves" (defArgs sCLv) (defBody sCLv) (defScope sCLv) .none kVCL dcCL pmCL anCL cdCL ctCL), slCL⟩)
    (cCL : PySem.W.codeIn K cdCL "Curl.leaves" = true)
    (kCL : PySem.W.keepIn K (.ref fCL) = true)
    {fCM : Addr} {odCM anCM : Option Addr} {slCM : Array (Option Value)} {ocCM kVCM dcCM pmCM cdCM ctCM : Value} (aCM : PySem.W.findIn K (.ref CC) "many" = some (some (.ref fCM)))
    (iCM : PySem.W.isFn K (.ref fCM) = true)
    (lCM : K.lookup fCM = some ⟨ocCM, odCM, .func (PySem.W.fnOf "many" "Curl.many" (defArgs sCMany) (defBody sCMany) (defScope sCMany) .none kVCM dcCM pmCM anCM cdCM ctCM), slCM⟩)
    (cCM : PySem.W.codeIn K cdCM "Curl.many" = true)
    (kCM : PySem.W.keepIn K (.ref fCM) = true)
    (nCtie : PySem.W.findIn K (.ref CC) "tie" = some none)
    (nCrest : PySem.W.findIn K (.ref CC) "rest" = some none)
    {CB : Addr} (aCB : PySem.W.nsIn K mainGlobals "Bridge" = some (some (.ref CB)))
    (pgB : PySem.W.plainGet K CB Str.empty = true)
    (hdB : PySem.W.hasDictIn K CB = true)
    (poB : PySem.W.plainOver K CB = true)
    (saB : PySem.W.findIn K (.ref CB) "__setattr__" = some (some (.builtin "object.__setattr__")))
    (mkB : PySem.W.makesIn K CB = true)
    (kcB : PySem.W.keepIn K (.ref CB) = true)
    {fBI : Addr} {odBI anBI : Option Addr} {slBI : Array (Option Value)} {ocBI kVBI dcBI pmBI cdBI ctBI : Value} (aBI : PySem.W.findIn K (.ref CB) "__init__" = some (some (.ref fBI)))
    (iBI : PySem.W.isFn K (.ref fBI) = true)
    (lBI : K.lookup fBI = some ⟨ocBI, odBI, .func (PySem.W.fnOf "__init__" "Bridge.__init__" (defArgs sBInit) (defBody sBInit) (defScope sBInit) .none kVBI dcBI pmBI anBI cdBI ctBI), slBI⟩)
    (cBI : PySem.W.codeIn K cdBI "Bridge.__init__" = true)
    (kBI : PySem.W.keepIn K (.ref fBI) = true)
    {fBP : Addr} {odBP anBP : Option Addr} {slBP : Array (Option Value)} {ocBP kVBP dcBP pmBP cdBP ctBP : Value} (aBP : PySem.W.findIn K (.ref CB) "poly" = some (some (.ref fBP)))
    (iBP : PySem.W.isFn K (.ref fBP) = true)
    (lBP : K.lookup fBP = some ⟨ocBP, odBP, .func (PySem.W.fnOf "poly" "Bridge.poly" (defArgs sBPoly) (defBody sBPoly) (defScope sBPoly) .none kVBP dcBP pmBP anBP cdBP ctBP), slBP⟩)
    (cBP : PySem.W.codeIn K cdBP "Bridge.poly" = true)
    (kBP : PySem.W.keepIn K (.ref fBP) = true)
    {fBL : Addr} {odBL anBL : Option Addr} {slBL : Array (Option Value)} {ocBL kVBL dcBL pmBL cdBL ctBL : Value} (aBL : PySem.W.findIn K (.ref CB) "leaves" = some (some (.ref fBL)))
    (iBL : PySem.W.isFn K (.ref fBL) = true)
    (lBL : K.lookup fBL = some ⟨ocBL, odBL, .func (PySem.W.fnOf "leaves" "Bridge.leaves" (defArgs sBLv) (defBody sBLv) (defScope sBLv) .none kVBL dcBL pmBL anBL cdBL ctBL), slBL⟩)
    (cBL : PySem.W.codeIn K cdBL "Bridge.leaves" = true)
    (kBL : PySem.W.keepIn K (.ref fBL) = true)
    {fBM : Addr} {odBM anBM : Option Addr} {slBM : Array (Option Value)} {ocBM kVBM dcBM pmBM cdBM ctBM : Value} (aBM : PySem.W.findIn K (.ref CB) "many" = some (some (.ref fBM)))
    (iBM : PySem.W.isFn K (.ref fBM) = true)
    (lBM : K.lookup fBM = some ⟨ocBM, odBM, .func (PySem.W.fnOf "many" "Bridge.many" (defArgs sBMany) (defBody sBMany) (defScope sBMany) .none kVBM dcBM pmBM anBM cdBM ctBM), slBM⟩)
    (cBM : PySem.W.codeIn K cdBM "Bridge.many" = true)
    (kBM : PySem.W.keepIn K (.ref fBM) = true)
    (nBtie : PySem.W.findIn K (.ref CB) "tie" = some none)
    (nBrest : PySem.W.findIn K (.ref CB) "rest" = some none)
    {CF : Addr} (aCF : PySem.W.nsIn K mainGlobals "Fork" = some (some (.ref CF)))
    (pgF : PySem.W.plainGet K CF Str.empty = true)
    (hdF : PySem.W.hasDictIn K CF = true)
    (poF : PySem.W.plainOver K CF = true)
    (saF : PySem.W.findIn K (.ref CF) "__setattr__" = some (some (.builtin "object.__setattr__")))
    (mkF : PySem.W.makesIn K CF = true)
    (kcF : PySem.W.keepIn K (.ref CF) = true)
    {fFI : Addr} {odFI anFI : Option Addr} {slFI : Array (Option Value)} {ocFI kVFI dcFI pmFI cdFI ctFI : Value} (aFI : PySem.W.findIn K (.ref CF) "__init__" = some (some (.ref fFI)))
    (iFI : PySem.W.isFn K (.ref fFI) = true)
    (lFI : K.lookup fFI = some ⟨ocFI, odFI, .func (PySem.W.fnOf "__init__" "Fork.__init__" (defArgs sFInit) (defBody sFInit) (defScope sFInit) .none kVFI dcFI pmFI anFI cdFI ctFI), slFI⟩)
    (cFI : PySem.W.codeIn K cdFI "Fork.__init__" = true)
    (kFI : PySem.W.keepIn K (.ref fFI) = true)
    {fFP : Addr} {odFP anFP : Option Addr} {slFP : Array (Option Value)} {ocFP kVFP dcFP pmFP cdFP ctFP : Value} (aFP : PySem.W.findIn K (.ref CF) "poly" = some (some (.ref fFP)))
    (iFP : PySem.W.isFn K (.ref fFP) = true)
    (lFP : K.lookup fFP = some ⟨ocFP, odFP, .func (PySem.W.fnOf "poly" "Fork.poly" (defArgs sFPoly) (defBody sFPoly) (defScope sFPoly) .none kVFP dcFP pmFP anFP cdFP ctFP), slFP⟩)
    (cFP : PySem.W.codeIn K cdFP "Fork.poly" = true)
    (kFP : PySem.W.keepIn K (.ref fFP) = true)
    {fFL : Addr} {odFL anFL : Option Addr} {slFL : Array (Option Value)} {ocFL kVFL dcFL pmFL cdFL ctFL : Value} (aFL : PySem.W.findIn K (.ref CF) "leaves" = some (some (.ref fFL)))
    (iFL : PySem.W.isFn K (.ref fFL) = true)
    (lFL : K.lookup fFL = some ⟨ocFL, odFL, .func (PySem.W.fnOf "leaves" "Fork.leaves" (defArgs sFLv) (defBody sFLv) (defScope sFLv) .none kVFL dcFL pmFL anFL cdFL ctFL), slFL⟩)
    (cFL : PySem.W.codeIn K cdFL "Fork.leaves" = true)
    (kFL : PySem.W.keepIn K (.ref fFL) = true)
    {fFM : Addr} {odFM anFM : Option Addr} {slFM : Array (Option Value)} {ocFM kVFM dcFM pmFM cdFM ctFM : Value} (aFM : PySem.W.findIn K (.ref CF) "many" = some (some (.ref fFM)))
    (iFM : PySem.W.isFn K (.ref fFM) = true)
    (lFM : K.lookup fFM = some ⟨ocFM, odFM, .func (PySem.W.fnOf "many" "Fork.many" (defArgs sFMany) (defBody sFMany) (defScope sFMany) .none kVFM dcFM pmFM anFM cdFM ctFM), slFM⟩)
    (cFM : PySem.W.codeIn K cdFM "Fork.many" = true)
    (kFM : PySem.W.keepIn K (.ref fFM) = true)
    (nFtie : PySem.W.findIn K (.ref CF) "tie" = some none)
    (nFwithout : PySem.W.findIn K (.ref CF) "without" = some none)
    (nFwithin : PySem.W.findIn K (.ref CF) "within" = some none)
    {CS : Addr} (aCS : PySem.W.nsIn K mainGlobals "Step" = some (some (.ref CS)))
    (sHN : PySem.W.specialIn K (.builtin "object.__class__") "__get__" = some (some (.builtin "getset_descriptor.__get__")))
    (sHT : PySem.W.takesIn K (.builtin "object.__class__") = some true)
    (sHE : PySem.W.findIn K (.ref CE) "__class__" = some (some (.builtin "object.__class__")))
    (sKE : ty33 K CE CS CE CC CB CF 0 = true)
    (sHC : PySem.W.findIn K (.ref CC) "__class__" = some (some (.builtin "object.__class__")))
    (sKC : ty33 K CC CS CE CC CB CF 1 = true)
    (sHB : PySem.W.findIn K (.ref CB) "__class__" = some (some (.builtin "object.__class__")))
    (sKB : ty33 K CB CS CE CC CB CF 2 = true)
    (sHF : PySem.W.findIn K (.ref CF) "__class__" = some (some (.builtin "object.__class__")))
    (sKF : ty33 K CF CS CE CC CB CF 3 = true)
    : ∃ fd : FuncData, (∀ (s : Shared) (v : Value), BindsTo s fd ⟨[v], []⟩ [("_law_script", v)]) /\ ∀ base : Heap, K.In base -> base.Ns mainGlobals mg -> FnOk l.prog w K mg base CX0 34 fa fd ["_law_script"] (spLaw K) := by
  have e := hfa.symm.trans (PySem.W.mg_of X G a16)
  cases e
  have S0 : Src K mg "gathered" sGath ["terms"] := src_mk X G a0 l0 c0 k0 fun _ _ _ _ _ _ => len1 (fun _ => rfl)
  have S1 : Src K mg "sum_of" sSumOf ["one", "other"] := src_mk X G a1 l1 c1 k1 fun _ _ _ _ _ _ => len2 (fun _ _ => rfl)
  have S2 : Src K mg "product_of" sProd ["one", "other"] := src_mk X G a2 l2 c2 k2 fun _ _ _ _ _ _ => len2 (fun _ _ => rfl)
  have S3 : Src K mg "with_tie" sWith ["ties", "tie"] := src_mk X G a3 l3 c3 k3 fun _ _ _ _ _ _ => len2 (fun _ _ => rfl)
  have S4 : Src K mg "_law_at" sAt ["_law_script", "_law_k"] := src_mk X G a4 l4 c4 k4 fun _ _ _ _ _ _ => len2 (fun _ _ => rfl)
  have S5 : Src K mg "_law_plan" sPlan ["_law_cells"] := src_mk X G a5 l5 c5 k5 fun _ _ _ _ _ _ => len1 (fun _ => rfl)
  have S6 : Src K mg "_law_made" sMadeS ["_law_plan_here", "_law_first", "_law_alike"] := src_mk X G a6 l6 c6 k6 fun _ _ _ _ _ _ => len3 (fun _ _ _ => rfl)
  have S7 : Src K mg "_law_sum" sSum ["_law_one", "_law_other"] := src_mk X G a7 l7 c7 k7 fun _ _ _ _ _ _ => len2 (fun _ _ => rfl)
  have S8 : Src K mg "_law_raised" sRaised ["_law_terms", "_law_i", "_law_j"] := src_mk X G a8 l8 c8 k8 fun _ _ _ _ _ _ => len3 (fun _ _ _ => rfl)
  have S9 : Src K mg "_law_within" sLWithin ["_law_leaves", "_law_tie"] := src_mk X G a9 l9 c9 k9 fun _ _ _ _ _ _ => len2 (fun _ _ => rfl)
  have S10 : Src K mg "_law_beyond" sLBeyond ["_law_leaves", "_law_tie"] := src_mk X G a10 l10 c10 k10 fun _ _ _ _ _ _ => len2 (fun _ _ => rfl)
  have S11 : Src K mg "_law_inside" sLInside ["_law_leaves", "_law_tie"] := src_mk X G a11 l11 c11 k11 fun _ _ _ _ _ _ => len2 (fun _ _ => rfl)
  have S12 : Src K mg "_law_dues" sDues ["_law_plan_here", "_law_first"] := src_mk X G a12 l12 c12 k12 fun _ _ _ _ _ _ => len2 (fun _ _ => rfl)
  have S13 : Src K mg "_law_whole" sLWhole ["_law_found"] := src_mk X G a13 l13 c13 k13 fun _ _ _ _ _ _ => len1 (fun _ => rfl)
  have S14 : Src K mg "_law_class" sClass ["_law_step"] := src_mk X G a14 l14 c14 k14 fun _ _ _ _ _ _ => len1 (fun _ => rfl)
  have S15 : Src K mg "_law_good" sGood ["_law_step", "_law_kind", "_law_due"] := src_mk X G a15 l15 c15 k15 fun _ _ _ _ _ _ => len3 (fun _ _ _ => rfl)
  have T : Txt K mg := ⟨PySem.W.mg_none_of X G z0, PySem.W.mg_none_of X G z1, PySem.W.mg_none_of X G z2, PySem.W.mg_none_of X G z3, PySem.W.mg_none_of X G z4, PySem.W.mg_none_of X G z5, PySem.W.mg_none_of X G z6, PySem.W.mg_none_of X G z7, PySem.W.mg_none_of X G z8, PySem.W.mg_none_of X G z9, PySem.W.mg_none_of X G z10, PySem.W.mg_none_of X G z11⟩
  have hrev : mg "reversed" = none := PySem.W.mg_none_of X G z12
  have hdict : mg "dict" = none := PySem.W.mg_none_of X G z13
  have Go : PolG K mg "ONE" [(0, 0, 1)] := ⟨oa, PySem.W.mg_of X G oo, fun H => ⟨oa, [.ref ob], rfl, .inr ⟨_, _, _, ol, rfl, rfl, by show 1 <= sizeLine; decide, .cons rfl .nil⟩, .cons ⟨ob, rfl, .inr ⟨_, _, _, oq, rfl, rfl, by show 3 <= sizeLine; decide, .cons ⟨_, rfl⟩ (.cons ⟨_, rfl⟩ (.cons ⟨_, rfl⟩ .nil))⟩⟩ .nil⟩⟩
  have Gx : PolG K mg "X" [(1, 0, 1)] := ⟨xa, PySem.W.mg_of X G xo, fun H => ⟨xa, [.ref xb], rfl, .inr ⟨_, _, _, xl, rfl, rfl, by show 1 <= sizeLine; decide, .cons rfl .nil⟩, .cons ⟨xb, rfl, .inr ⟨_, _, _, xq, rfl, rfl, by show 3 <= sizeLine; decide, .cons ⟨_, rfl⟩ (.cons ⟨_, rfl⟩ (.cons ⟨_, rfl⟩ .nil))⟩⟩ .nil⟩⟩
  have Gy_ : PolG K mg "Y" [(0, 1, 1)] := ⟨y_a, PySem.W.mg_of X G y_o, fun H => ⟨y_a, [.ref y_b], rfl, .inr ⟨_, _, _, y_l, rfl, rfl, by show 1 <= sizeLine; decide, .cons rfl .nil⟩, .cons ⟨y_b, rfl, .inr ⟨_, _, _, y_q, rfl, rfl, by show 3 <= sizeLine; decide, .cons ⟨_, rfl⟩ (.cons ⟨_, rfl⟩ (.cons ⟨_, rfl⟩ .nil))⟩⟩ .nil⟩⟩
  have T4 : StK K mg CE CC CB CF := ⟨⟨pgE, hdE, poE, saE⟩, ⟨pgC, hdC, poC, saC⟩, ⟨pgB, hdB, poB, saB⟩, ⟨pgF, hdF, poF, saF⟩, nCtie, nCrest, nBtie, nBrest, nFtie, nFwithout, nFwithin, ⟨mkE, inE, kcE⟩, ⟨fCI, _, ⟨mkC, aCI, iCI, kcC⟩, fun_mk (st := sCInit) lCI cCI kCI, (fun_mk (st := sCInit) lCI cCI kCI).binds fun _ _ _ _ _ _ => len3 (fun _ _ _ => rfl)⟩, ⟨fBI, _, ⟨mkB, aBI, iBI, kcB⟩, fun_mk (st := sBInit) lBI cBI kBI, (fun_mk (st := sBInit) lBI cBI kBI).binds fun _ _ _ _ _ _ => len3 (fun _ _ _ => rfl)⟩, ⟨fFI, _, ⟨mkF, aFI, iFI, kcF⟩, fun_mk (st := sFInit) lFI cFI kFI, (fun_mk (st := sFInit) lFI cFI kFI).binds fun _ _ _ _ _ _ => len4 (fun _ _ _ _ => rfl)⟩, PySem.W.mg_of X G aCE, PySem.W.mg_of X G aCC, PySem.W.mg_of X G aCB, PySem.W.mg_of X G aCF, ⟨fEP, _, ⟨aEP, iEP, kEP⟩, fun_mk (st := sEPoly) lEP cEP kEP, (fun_mk (st := sEPoly) lEP cEP kEP).binds fun _ _ _ _ _ _ => len1 (fun _ => rfl)⟩, ⟨fCP, _, ⟨aCP, iCP, kCP⟩, fun_mk (st := sCPoly) lCP cCP kCP, (fun_mk (st := sCPoly) lCP cCP kCP).binds fun _ _ _ _ _ _ => len1 (fun _ => rfl)⟩, ⟨fBP, _, ⟨aBP, iBP, kBP⟩, fun_mk (st := sBPoly) lBP cBP kBP, (fun_mk (st := sBPoly) lBP cBP kBP).binds fun _ _ _ _ _ _ => len1 (fun _ => rfl)⟩, ⟨fFP, _, ⟨aFP, iFP, kFP⟩, fun_mk (st := sFPoly) lFP cFP kFP, (fun_mk (st := sFPoly) lFP cFP kFP).binds fun _ _ _ _ _ _ => len1 (fun _ => rfl)⟩⟩
  have TL : StL K CE CC CB CF := ⟨⟨fEL, _, ⟨aEL, iEL, kEL⟩, fun_mk (st := sELv) lEL cEL kEL, (fun_mk (st := sELv) lEL cEL kEL).binds fun _ _ _ _ _ _ => len1 (fun _ => rfl)⟩, ⟨fCL, _, ⟨aCL, iCL, kCL⟩, fun_mk (st := sCLv) lCL cCL kCL, (fun_mk (st := sCLv) lCL cCL kCL).binds fun _ _ _ _ _ _ => len1 (fun _ => rfl)⟩, ⟨fBL, _, ⟨aBL, iBL, kBL⟩, fun_mk (st := sBLv) lBL cBL kBL, (fun_mk (st := sBLv) lBL cBL kBL).binds fun _ _ _ _ _ _ => len1 (fun _ => rfl)⟩, ⟨fFL, _, ⟨aFL, iFL, kFL⟩, fun_mk (st := sFLv) lFL cFL kFL, (fun_mk (st := sFLv) lFL cFL kFL).binds fun _ _ _ _ _ _ => len1 (fun _ => rfl)⟩, ⟨fEM, _, ⟨aEM, iEM, kEM⟩, fun_mk (st := sEMany) lEM cEM kEM, (fun_mk (st := sEMany) lEM cEM kEM).binds fun _ _ _ _ _ _ => len1 (fun _ => rfl)⟩, ⟨fCM, _, ⟨aCM, iCM, kCM⟩, fun_mk (st := sCMany) lCM cCM kCM, (fun_mk (st := sCMany) lCM cCM kCM).binds fun _ _ _ _ _ _ => len1 (fun _ => rfl)⟩, ⟨fBM, _, ⟨aBM, iBM, kBM⟩, fun_mk (st := sBMany) lBM cBM kBM, (fun_mk (st := sBMany) lBM cBM kBM).binds fun _ _ _ _ _ _ => len1 (fun _ => rfl)⟩, ⟨fFM, _, ⟨aFM, iFM, kFM⟩, fun_mk (st := sFMany) lFM cFM kFM, (fun_mk (st := sFMany) lFM cFM kFM).binds fun _ _ _ _ _ _ => len1 (fun _ => rfl)⟩⟩
  have SI : StI K mg CS CE CC CB CF := ⟨PySem.W.mg_of X G aCS, sHN, sHT, ty33_of sHE sKE, ty33_of sHC sKC, ty33_of sHB sKB, ty33_of sHF sKF⟩
  refine ⟨PySem.W.fnOf "law" "law" (defArgs sLaw) (defBody sLaw) (defScope sLaw) .none kV16 dc16 pm16 an16 cd16 ct16, fun s v => .of_eq rfl, fun base _ _ => ?_⟩
  have D0 : Def l.prog w K mg base 1 _ _ _ := d_gath T.p S0
  have D1 : Def l.prog w K mg base 2 _ _ _ := d_sumB S1 D0
  have D2 : Def l.prog w K mg base 2 _ _ _ := d_prod S2 D0
  have D3 : Def l.prog w K mg base 1 _ _ _ := d_with T S3
  have D4 : Def l.prog w K mg base 1 _ _ _ := d_at T S4
  have D5 : Def l.prog w K mg base 1 _ _ _ := d_plan T S5
  have D6 : Def l.prog w K mg base 3 _ _ _ := d_made T hrev T4 S6
  have D7 : Def l.prog w K mg base 1 _ _ _ := d_sumD hdict S7
  have D8 : Def l.prog w K mg base 1 _ _ _ := d_raised S8
  have D9 : Def l.prog w K mg base 1 _ _ _ := d_sLWithin T S9
  have D10 : Def l.prog w K mg base 1 _ _ _ := d_sLBeyond T S10
  have D11 : Def l.prog w K mg base 1 _ _ _ := d_sLInside T S11
  have D12 : Def l.prog w K mg base 2 _ _ _ := d_dues T hrev S12 D8 D7 D9 D10 D11
  have D13 : Def l.prog w K mg base 1 _ _ _ := d_lwhole T S13
  have D14 : Def l.prog w K mg base 1 _ _ _ := d_class T T4 SI S14
  have O28 : PolyOk l.prog w K mg base CE CC CB CF 28 := poly_ok T4 Gx Gy_ Go D2 D1 28
  have OL : LvOk l.prog w K mg base CE CC CB CF 28 := lv_ok T T4 TL D3 28
  have OM : MyOk l.prog w K mg base CE CC CB CF 28 := my_ok T4 TL 28
  have D15 : Def l.prog w K mg base 33 _ _ _ := d_good T T4 O28 OL OM S15 D14 D13
  exact ok_law (fun_mk (st := sLaw) l16 c16 k16) T T4 D4 D5 D6 D12 D15 D13
theorem walk {l : PySem.W.OpenLaw} {q : Program} {loose : List Str} {XP : (Str -> Option Value) -> Heap -> Prop} {YP : World -> Heap -> Prop} {d : DefRec} {K : Params -> PySem.W.Frag} (hn : l.most = some 63) (hdf : d.params.defaults = [])
    (hY : ∀ (w : World) (h : Heap), YP w h -> (K w.params).In h)
    (F : ∀ (w : World) (mg : Str -> Option Value) (fa : Addr) (h : Heap), (K w.params).In h -> h.Ns mainGlobals mg -> mg d.name = some (.ref fa) ->
      ∃ fd : FuncData, (∀ (s : Shared) (u : Value), BindsTo s fd ⟨[u], []⟩ [("_law_script", u)]) /\ ∀ base : Heap, (K w.params).In base -> base.Ns mainGlobals mg -> FnOk l.prog w (K w.params) mg base CX0 34 fa fd ["_law_script"] (spLaw (K w.params))) :
    PySem.W.WalkO q loose XP YP l.row.toRowW d [] (fun f vs => PySem.call f vs) :=
  L2.walk_of (n := 63) (k := 34) (x := "_law_script") (CX := fun _ => CX0) (sp := fun w => spLaw (K w.params)) hn (by decide) hdf ⟨rfl, by decide, by decide⟩ hY F (fun _ _ a ns hl _ hS => ⟨a, ns, rfl, hS, hl, fun _ => rfl⟩) fun _ _ _ _ _ z => z
end My
def PySem.W.Fast.tw12837779100948234166 : Unit := ()
def PySem.W.Fast.tw11408205436969077325 : Unit := ()
def PySem.W.Fast.tw15797210388663917931 : Unit := ()
def PySem.W.Fast.tw1751518445914773356 : Unit := ()
def PySem.W.Fast.tw1354129696898478682 : Unit := ()
def PySem.W.Fast.tw11454419779846507406 : Unit := ()
def PySem.W.Fast.tw14870575965762479820 : Unit := ()
def PySem.W.Fast.tw14135945128144364253 : Unit := ()
def PySem.W.Fast.tw4404919742893239139 : Unit := ()
def PySem.W.Fast.tw12365608231520438015 : Unit := ()
open PySem PySem.W PyProof.Rows
set_option maxRecDepth 100000 in
set_option maxHeartbeats 0 in
theorem PySem.Challenge.cw_manycounts_k34_steps_made_by_hand_holds : PySem.Challenge.rw_manycounts_k34_steps_made_by_hand.Holds := by
  w_on; o_law; k_head; (case hw => w_witness2)
  k_fill
  refine My.walk (l := PySem.Challenge.rw_manycounts_k34_steps_made_by_hand) rfl rfl (fun w h Y => PySem.W.kIn_of Y) ?F
  case F =>
    intro w mg fa h KX G hmg
    refine' My.all_mk KX G hmg ?a0 ?l0 ?c0 ?k0 ?a1 ?l1 ?c1 ?k1 ?a2 ?l2 ?c2 ?k2 ?a3 ?l3 ?c3 ?k3 ?a4 ?l4 ?c4 ?k4 ?a5 ?l5 ?c5 ?k5 ?a6 ?l6 ?c6 ?k6 ?a7 ?l7 ?c7 ?k7 ?a8 ?l8 ?c8 ?k8 ?a9 ?l9 ?c9 ?k9 ?a10 ?l10 ?c10 ?k10 ?a11 ?l11 ?c11 ?k11 ?a12 ?l12 ?c12 ?k12 ?a13 ?l13 ?c13 ?k13 ?a14 ?l14 ?c14 ?k14 ?a15 ?l15 ?c15 ?k15 ?a16 ?l16 ?c16 ?k16 ?z0 ?z1 ?z2 ?z3 ?z4 ?z5 ?z6 ?z7 ?z8 ?z9 ?z10 ?z11 ?z12 ?z13 ?oo ?ol ?oq ?xo ?xl ?xq ?y_o ?y_l ?y_q ?aCE ?pgE ?hdE ?poE ?saE ?mkE ?kcE ?inE ?aEP ?iEP ?lEP ?cEP ?kEP ?aEL ?iEL ?lEL ?cEL ?kEL ?aEM ?iEM ?lEM ?cEM ?kEM ?aCC ?pgC ?hdC ?poC ?saC ?mkC ?kcC ?aCI ?iCI ?lCI ?cCI ?kCI ?aCP ?iCP ?lCP ?cCP ?kCP ?aCL ?iCL ?lCL ?cCL ?kCL ?aCM ?iCM ?lCM ?cCM ?kCM ?nCtie ?nCrest ?aCB ?pgB ?hdB ?poB ?saB ?mkB ?kcB ?aBI ?iBI ?lBI ?cBI ?kBI ?aBP ?iBP ?lBP ?cBP ?kBP ?aBL ?iBL ?lBL ?cBL ?kBL ?aBM ?iBM ?lBM ?cBM ?kBM ?nBtie ?nBrest ?aCF ?pgF ?hdF ?poF ?saF ?mkF ?kcF ?aFI ?iFI ?lFI ?cFI ?kFI ?aFP ?iFP ?lFP ?cFP ?kFP ?aFL ?iFL ?lFL ?cFL ?kFL ?aFM ?iFM ?lFM ?cFM ?kFM ?nFtie ?nFwithout ?nFwithin ?aCS ?sHN ?sHT ?sHE ?sKE ?sHC ?sKC ?sHB ?sKB ?sHF ?sKF
    (case a0 => k_is); (case l0 => k_is); (case c0 => k_is); (case k0 => k_is)
    (case a1 => k_is); (case l1 => k_is); (case c1 => k_is); (case k1 => k_is)
    (case a2 => k_is); (case l2 => k_is); (case c2 => k_is); (case k2 => k_is)
    (case a3 => k_is); (case l3 => k_is); (case c3 => k_is); (case k3 => k_is)
    (case a4 => k_is); (case l4 => k_is); (case c4 => k_is); (case k4 => k_is)
    (case a5 => k_is); (case l5 => k_is); (case c5 => k_is); (case k5 => k_is)
    (case a6 => k_is); (case l6 => k_is); (case c6 => k_is); (case k6 => k_is)
    (case a7 => k_is); (case l7 => k_is); (case c7 => k_is); (case k7 => k_is)
    (case a8 => k_is); (case l8 => k_is); (case c8 => k_is); (case k8 => k_is)
    (case a9 => k_is); (case l9 => k_is); (case c9 => k_is); (case k9 => k_is)
    (case a10 => k_is); (case l10 => k_is); (case c10 => k_is); (case k10 => k_is)
    (case a11 => k_is); (case l11 => k_is); (case c11 => k_is); (case k11 => k_is)
    (case a12 => k_is); (case l12 => k_is); (case c12 => k_is); (case k12 => k_is)
    (case a13 => k_is); (case l13 => k_is); (case c13 => k_is); (case k13 => k_is)
    (case a14 => k_is); (case l14 => k_is); (case c14 => k_is); (case k14 => k_is)
    (case a15 => k_is); (case l15 => k_is); (case c15 => k_is); (case k15 => k_is)
    (case a16 => k_is); (case l16 => k_is); (case c16 => k_is); (case k16 => k_is)
    (case z0 => k_is); (case z1 => k_is); (case z2 => k_is); (case z3 => k_is)
    (case z4 => k_is); (case z5 => k_is); (case z6 => k_is); (case z7 => k_is)
    (case z8 => k_is); (case z9 => k_is); (case z10 => k_is); (case z11 => k_is)
    (case z12 => k_is); (case z13 => k_is)
    (case oo => k_is)
    (case ol => k_is)
    (case oq => k_is)
    (case xo => k_is)
    (case xl => k_is)
    (case xq => k_is)
    (case y_o => k_is)
    (case y_l => k_is)
    (case y_q => k_is)
    (case aCE => k_is)
    (case pgE => k_is)
    (case hdE => k_is)
    (case poE => k_is)
    (case saE => k_is)
    (case mkE => k_is)
    (case kcE => k_is)
    (case inE => k_is)
    (case aEP => k_is)
    (case iEP => k_is)
    (case lEP => k_is)
    (case cEP => k_is)
    (case kEP => k_is)
    (case aEL => k_is)
    (case iEL => k_is)
    (case lEL => k_is)
    (case cEL => k_is)
    (case kEL => k_is)
    (case aEM => k_is)
    (case iEM => k_is)
    (case lEM => k_is)
    (case cEM => k_is)
    (case kEM => k_is)
    (case aCC => k_is)
    (case pgC => k_is)
    (case hdC => k_is)
    (case poC => k_is)
    (case saC => k_is)
    (case mkC => k_is)
    (case kcC => k_is)
    (case aCI => k_is)
    (case iCI => k_is)
    (case lCI => k_is)
    (case cCI => k_is)
    (case kCI => k_is)
    (case aCP => k_is)
    (case iCP => k_is)
    (case lCP => k_is)
    (case cCP => k_is)
    (case kCP => k_is)
    (case aCL => k_is)
    (case iCL => k_is)
    (case lCL => k_is)
    (case cCL => k_is)
    (case kCL => k_is)
    (case aCM => k_is)
    (case iCM => k_is)
    (case lCM => k_is)
    (case cCM => k_is)
    (case kCM => k_is)
    (case nCtie => k_is)
    (case nCrest => k_is)
    (case aCB => k_is)
    (case pgB => k_is)
    (case hdB => k_is)
    (case poB => k_is)
    (case saB => k_is)
    (case mkB => k_is)
    (case kcB => k_is)
    (case aBI => k_is)
    (case iBI => k_is)
    (case lBI => k_is)
    (case cBI => k_is)
    (case kBI => k_is)
    (case aBP => k_is)
    (case iBP => k_is)
    (case lBP => k_is)
    (case cBP => k_is)
    (case kBP => k_is)
    (case aBL => k_is)
    (case iBL => k_is)
    (case lBL => k_is)
    (case cBL => k_is)
    (case kBL => k_is)
    (case aBM => k_is)
    (case iBM => k_is)
    (case lBM => k_is)
    (case cBM => k_is)
    (case kBM => k_is)
    (case nBtie => k_is)
    (case nBrest => k_is)
    (case aCF => k_is)
    (case pgF => k_is)
    (case hdF => k_is)
    (case poF => k_is)
    (case saF => k_is)
    (case mkF => k_is)
    (case kcF => k_is)
    (case aFI => k_is)
    (case iFI => k_is)
    (case lFI => k_is)
    (case cFI => k_is)
    (case kFI => k_is)
    (case aFP => k_is)
    (case iFP => k_is)
    (case lFP => k_is)
    (case cFP => k_is)
    (case kFP => k_is)
    (case aFL => k_is)
    (case iFL => k_is)
    (case lFL => k_is)
    (case cFL => k_is)
    (case kFL => k_is)
    (case aFM => k_is)
    (case iFM => k_is)
    (case lFM => k_is)
    (case cFM => k_is)
    (case kFM => k_is)
    (case nFtie => k_is)
    (case nFwithout => k_is)
    (case nFwithin => k_is)
    (case aCS => k_is)
    (case sHN => k_is)
    (case sHT => k_is)
    (case sHE => k_is)
    (case sKE => kernel_rfl)
    (case sHC => k_is)
    (case sKC => kernel_rfl)
    (case sHB => k_is)
    (case sKB => kernel_rfl)
    (case sHF => k_is)
    (case sKF => kernel_rfl)
